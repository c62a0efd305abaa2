/-
  A leaf and the reference's, side by side: what the calls leave; a clone and its original; a row of one's own that is written.
  What LeafPlays returns where there may be no such schemas; both Scans.
-/
import Derived.Test.YtlbjbkhcnafhcaaGreatP44TScan
import Derived.Test.YtlbjbkhcnafhcaaGreatQLRefT
import Derived.Test.YtlbjbkhcnafhcaaGreatQLClone2
import Derived.Test.YtlbjbkhcnafhcaaGreatQLTimes
import Derived.Test.YtlbjbkhcnafhcaaGreatP36Laid
namespace Go.Proofs.YtlbjbkhcnafhcaaGreat
open Go.RowKit Go.Sort Go.Shelf Go.Maps

theorem rfscan_any {B : Nat} {P : Nat → Prop} {w : World} {yb : Nat} {ps : Option Addr} {ns cs : Nat} {S : List Sc} {room : Int} {v : Value} {pts : List Pt} {nm : ByteArray} {a z : Int} (h : Rf B P w yb (.slice ps ns cs) room v pts) (hs : SchsAt w (.slice ps ns cs) S) (hc : checkS S = 0) (hl : pts.length ≤ 254) (hz : ∀ p ∈ pts, List.length p.ks ≤ 4 ∧ List.length p.vs ≤ 4) :
    Calls Tryz.prog 14 #[dp yb, .string nm, .int .i64 a, .int .i64 z] w (ScP w S pts nm a z) := by
  by_cases hn : atS S nm < 0
  · exact rfscan_none h hs hn
  · obtain ⟨j, hj, he⟩ := at_nat hn
    exact rfscan_some h hs hc hj he hl hz
theorem Rf.T_knd {B : Nat} {P : Nat → Prop} {w : World} {yb : Nat} {sv : Value} {room : Int} {v : Value} {pts : List Pt} (h : Rf B P w yb sv room v pts) {k : Nat} (hk : Ty yb v k) : ∃ c t fz, w.heap[k]? = some (.cells c t fz) ∧ (t = 50 ∨ t = 34) := by
  rcases hk with rfl | e
  · exact ⟨_, 50, _, h.blk, .inl rfl⟩
  · obtain ⟨hs, h1, _⟩ := h.row
    obtain ⟨c, f, hc⟩ := own_kind h1 e
    exact ⟨c, 34, f, hc, .inr rfl⟩
theorem Rf.T_ge {B : Nat} {P : Nat → Prop} {w : World} {yb : Nat} {sv : Value} {room : Int} {v : Value} {pts : List Pt} (h : Rf B P w yb sv room v pts) {k : Nat} (hk : Ty yb v k) : B ≤ k := by
  rcases hk with rfl | e
  · exact h.bB
  · obtain ⟨hs, h1, _⟩ := h.row
    exact (own_at h1 e).1
theorem Rf.T_lt {B : Nat} {P : Nat → Prop} {w : World} {yb : Nat} {sv : Value} {room : Int} {v : Value} {pts : List Pt} (h : Rf B P w yb sv room v pts) {k : Nat} (hk : Ty yb v k) : k < w.heap.size := by
  obtain ⟨c, t, fz, hc, _⟩ := h.T_knd hk
  exact lt_of_block hc
theorem Lf.T_lt {B : Nat} {P : Nat → Prop} {w : World} {b : Nat} {S : List Sc} {room : Int} {x : Lx} {pts : List Pt} (h : Lf B P w b S room x pts) {k : Nat} (hk : Tl b x k) : k < w.heap.size := by
  obtain ⟨l, R, h1, _⟩ := h.lk
  exact (h1.T_kind k hk).1
theorem Lf.T_ge {B : Nat} {P : Nat → Prop} {w : World} {b : Nat} {S : List Sc} {room : Int} {x : Lx} {pts : List Pt} (h : Lf B P w b S room x pts) {k : Nat} (hk : Tl b x k) : B ≤ k := by
  obtain ⟨l, R, h1, _⟩ := h.lk
  exact h1.T_ge k hk
theorem Lf.T_no {B : Nat} {P : Nat → Prop} {w : World} {b : Nat} {S : List Sc} {room : Int} {x : Lx} {pts : List Pt} (h : Lf B P w b S room x pts) {k : Nat} {cs : Array Value} {t : TypeId} {fz : Nat × Nat} (hk : w.heap[k]? = some (.cells cs t fz)) (ht : t = 50 ∨ t = 34 ∨ t = 40 ∨ t = 44) : ¬ Tl b x k := by
  obtain ⟨l, R, h1, _⟩ := h.lk
  refine h1.T_not hk ?_ ?_ ?_ ?_ ?_ <;> (rcases ht with rfl | rfl | rfl | rfl <;> decide)
theorem Lf.apart {B B' : Nat} {P P' : Nat → Prop} {w : World} {b : Nat} {S : List Sc} {room : Int} {x : Lx} {pts : List Pt} (h : Lf B P w b S room x pts) {yb : Nat} {sv : Value} {room' : Int} {v : Value} {yp : List Pt} (hy : Rf B' P' w yb sv room' v yp) {k : Nat} (hk : Tl b x k) : ¬ Ty yb v k := fun e => by
  obtain ⟨c, t, fz, hc, ht⟩ := hy.T_knd e
  exact h.T_no hc (ht.elim .inl fun e => .inr (.inl e)) hk
theorem Lf.other {B B' : Nat} {P P' : Nat → Prop} {w w' : World} {a b : Nat} {S S' : List Sc} {room room' : Int} {x y : Lx} {pts qts : List Pt} (hb : Lf B P w b S room y qts) (ha : Lf B' P' w a S' room' x pts) (hk : Kp (Tl a x) w w') (hap : ∀ k, Tl b y k → ¬ Tl a x k) : Lf B P w' b S room y qts := by
  obtain ⟨l, R, h6, _⟩ := ha.lk
  exact hb.kp hk (fun k hk => h6.tyS_not hk) hap (fun k hk => h6.ty_not hk)
theorem Lf.beside {B B' : Nat} {P P' : Nat → Prop} {w w' : World} {b : Nat} {S : List Sc} {room : Int} {x : Lx} {pts : List Pt} (h : Lf B P w b S room x pts) {yb : Nat} {sv : Value} {room' : Int} {v : Value} {yp : List Pt} (hy : Rf B' P' w yb sv room' v yp) (hk : Kp (Ty yb v) w w') : Lf B P w' b S room x pts := by
  refine h.kp hk (fun k hs e => ?_) (fun k hl => h.apart hy hl) (fun k ht => hy.ty_not ht)
  obtain ⟨c, t, fz, hc, ht⟩ := hy.T_knd e
  obtain ⟨c', t', fz', hc', ht'⟩ := hs
  rw [hc] at hc'
  injection hc' with hc'
  injection hc' with _ e2 _
  subst e2
  rcases ht with rfl | rfl <;> rcases ht' with h | h <;> cases h
theorem Rf.beside {B B' : Nat} {P P' : Nat → Prop} {w w' : World} {b : Nat} {S : List Sc} {room : Int} {x : Lx} {pts : List Pt} (h : Lf B P w b S room x pts) {yb : Nat} {sv : Value} {room' : Int} {v : Value} {yp : List Pt} (hy : Rf B' P' w yb sv room' v yp) (hk : Kp (Tl b x) w w') : Rf B' P' w' yb sv room' v yp := by
  obtain ⟨l, R, h6, _⟩ := h.lk
  exact hy.kp hk (fun k e hl => h.apart hy hl e) (fun k ht => h6.ty_not ht)
/- A row of one's own, in a block of values of which P does not hold, turns. -/
theorem Lf.own {B C : Nat} {P : Nat → Prop} {w w' : World} {b : Nat} {S : List Sc} {room : Int} {x : Lx} {pts : List Pt} {u : Value} {r : Rw} (h : Lf B P w b S room x pts) (ho : Own Vl.cells 11 40 C w u r) (hP : ∀ k, u.ownBlock = some k → ¬ P k) (hk : Kp (fun k => u.ownBlock = some k) w w') : Lf B P w' b S room x pts := by
  refine h.kp hk (fun k hs e => ?_) (fun k hl e => ?_) (fun k ht e => hP k e ht.1)
  · obtain ⟨c, f, hc⟩ := own_kind ho e
    obtain ⟨c', t', fz', hc', ht'⟩ := hs
    rw [hc] at hc'
    injection hc' with hc'
    injection hc' with _ e2 _
    subst e2
    rcases ht' with h | h <;> cases h
  · obtain ⟨c, f, hc⟩ := own_kind ho e
    exact h.T_no hc (.inr (.inr (.inl rfl))) hl
theorem Rf.own {B C : Nat} {P : Nat → Prop} {w w' : World} {yb : Nat} {sv : Value} {room : Int} {v : Value} {yp : List Pt} {u : Value} {r : Rw} (hy : Rf B P w yb sv room v yp) (ho : Own Vl.cells 11 40 C w u r) (hP : ∀ k, u.ownBlock = some k → ¬ P k) (hk : Kp (fun k => u.ownBlock = some k) w w') : Rf B P w' yb sv room v yp := by
  refine hy.kp hk (fun k e1 e => ?_) (fun k ht e => hP k e ht.1)
  obtain ⟨c, f, hc⟩ := own_kind ho e
  obtain ⟨c', t, fz, hc', ht⟩ := hy.T_knd e1
  rw [hc] at hc'
  injection hc' with hc'
  injection hc' with _ e2 _
  subst e2
  rcases ht with h | h <;> cases h
/- Both, above a world that stays. -/
structure Pq (P : Nat → Prop) (w0 w : World) (b : Nat) (S : List Sc) (room : Int) (x : Lx) (fp : List Pt) (yb : Nat) (sv v : Value) (yp : List Pt) : Prop where
  lf : ∃ B, w0.heap.size ≤ B ∧ Lf B P w b S room x fp
  rf : ∃ B, w0.heap.size ≤ B ∧ Rf B P w yb sv room v yp
  bel : Below w0.heap.size w0 w
theorem Pq.on {P : Nat → Prop} {w0 w w' : World} {b : Nat} {S : List Sc} {room : Int} {x : Lx} {fp : List Pt} {yb : Nat} {sv v : Value} {yp : List Pt} (h : Pq P w0 w b S room x fp yb sv v yp) (hb : Below w.heap.size w w') : Pq P w0 w' b S room x fp yb sv v yp :=
  let ⟨⟨B, h1, h2⟩, ⟨C, h3, h4⟩, h5⟩ := h; ⟨⟨B, h1, h2.on hb⟩, ⟨C, h3, h4.on hb⟩, h5.trans (hb.mono h5.size)⟩
theorem Pq.P {P P' : Nat → Prop} {w0 w : World} {b : Nat} {S : List Sc} {room : Int} {x : Lx} {fp : List Pt} {yb : Nat} {sv v : Value} {yp : List Pt} (h : Pq P w0 w b S room x fp yb sv v yp) (hp : ∀ k, k < w.heap.size → P k → P' k) : Pq P' w0 w b S room x fp yb sv v yp :=
  let ⟨⟨B, h1, h2⟩, ⟨C, h3, h4⟩, h5⟩ := h; ⟨⟨B, h1, h2.P hp⟩, ⟨C, h3, h4.P hp⟩, h5⟩
theorem Pq.T_lt {P : Nat → Prop} {w0 w : World} {b : Nat} {S : List Sc} {room : Int} {x : Lx} {fp : List Pt} {yb : Nat} {sv v : Value} {yp : List Pt} (h : Pq P w0 w b S room x fp yb sv v yp) : (∀ k, Tl b x k → k < w.heap.size) ∧ ∀ k, Ty yb v k → k < w.heap.size :=
  let ⟨⟨_, _, h2⟩, ⟨_, _, h4⟩, _⟩ := h; ⟨fun _ hk => h2.T_lt hk, fun _ hk => h4.T_lt hk⟩
theorem Pq.own {P : Nat → Prop} {w0 w w' : World} {b : Nat} {S : List Sc} {room : Int} {x : Lx} {fp : List Pt} {yb : Nat} {sv v : Value} {yp : List Pt} {C : Nat} {u : Value} {r : Rw} (h : Pq P w0 w b S room x fp yb sv v yp) (ho : Own Vl.cells 11 40 C w u r) (hC : w0.heap.size ≤ C) (hP : ∀ k, u.ownBlock = some k → ¬ P k) (hk : Kp (fun k => u.ownBlock = some k) w w') : Pq P w0 w' b S room x fp yb sv v yp :=
  let ⟨⟨B, h1, h2⟩, ⟨D, h3, h4⟩, h5⟩ := h; ⟨⟨B, h1, h2.own ho hP hk⟩, ⟨D, h3, h4.own ho hP hk⟩, h5.trans (hk.below h5.size fun _ e => Nat.le_trans hC (own_at ho e).1)⟩
theorem Pq.pt {P Q : Nat → Prop} {w0 w : World} {b : Nat} {S : List Sc} {room : Int} {x : Lx} {fp : List Pt} {yb : Nat} {sv v : Value} {yp : List Pt} {u : Value} {p : Pt} (h : Pq P w0 w b S room x fp yb sv v yp) (hp : PtT Q w u p) : ∀ w', Kp (Tl b x) w w' → PtAt w' u p := let ⟨⟨_, _, h2⟩, _, _⟩ := h; hp.keep h2
theorem pq_wrF {P : Nat → Prop} {w0 w : World} {b : Nat} {S : List Sc} {room : Int} {x : Lx} {fp fp' : List Pt} {yb : Nat} {sv v : Value} {yp : List Pt} {u : Value} {p : Pt} {r : Bool} {z : Int} (h : Pq P w0 w b S room x fp yb sv v yp) (hp : ∀ w', Kp (Tl b x) w w' → PtAt w' u p) (hc : checkS S = 0) (hn : fp.length ≤ 254) (hr : ∀ v ∈ p.ks, SN.Rng v) (hP : ∀ k, w.heap.size ≤ k → P k) (e1 : wrN S room fp p = r) (e2 : wrE S room fp p = z) (e3 : wrL S room fp p = fp') :
    Calls Tryz.prog 11 #[dp b, u] w fun e w' => e = .returned (.tuple #[.bool r, .int .i64 z]) ∧ ∃ x', Pq P w0 w' b S room x' fp' yb sv v yp ∧ Kp (Tl b x) w w' := by
  obtain ⟨⟨B, h1, h2⟩, ⟨C, h3, h4⟩, h5⟩ := h
  refine (write_any h2 hp hc hn hr hP).mono ?_
  rintro e w' ⟨he, x', h6, h7, h8⟩
  rw [e1, e2] at he
  rw [e3] at h6
  exact ⟨he, x', ⟨⟨B, h1, h6⟩, ⟨C, h3, h4.beside h2 h7⟩, h5.trans (h7.below h5.size fun k hk => Nat.le_trans h1 (h2.T_ge hk))⟩, h7⟩
theorem pq_wrY {P : Nat → Prop} {w0 w : World} {b : Nat} {S : List Sc} {room : Int} {x : Lx} {fp : List Pt} {yb : Nat} {ps : Option Addr} {ns cs : Nat} {v : Value} {yp yp' : List Pt} {u : Value} {p : Pt} {r : Bool} {z : Int} (h : Pq P w0 w b S room x fp yb (.slice ps ns cs) v yp) (hs : SchsAt w (.slice ps ns cs) S) (hp : PtAt w u p) (hn : yp.length ≤ 1000) (hP : ∀ k, w.heap.size ≤ k → P k) (e1 : wrN S room yp p = r) (e2 : wrE S room yp p = z) (e3 : wrL S room yp p = yp') :
    Calls Tryz.prog 12 #[dp yb, u] w fun e w' => e = .returned (.tuple #[.bool r, .int .i64 z]) ∧ ∃ v', Pq P w0 w' b S room x fp yb (.slice ps ns cs) v' yp' ∧ Kp (Ty yb v) w w' := by
  obtain ⟨⟨B, h1, h2⟩, ⟨C, h3, h4⟩, h5⟩ := h
  refine (rfwrite_any h4 hs hp hn hP).mono ?_
  rintro e w' ⟨he, v', h6, h7, h8⟩
  rw [e1, e2] at he
  rw [e3] at h6
  exact ⟨he, v', ⟨⟨B, h1, h2.beside h4 h7⟩, ⟨C, h3, h6⟩, h5.trans (h7.below h5.size fun k hk => Nat.le_trans h3 (h4.T_ge hk))⟩, h7⟩
/- A clone, with its original. -/
structure Po (P : Nat → Prop) (w0 w : World) (b : Nat) (S : List Sc) (room : Int) (x : Lx) (fp : List Pt) (yb : Nat) (sv v : Value) (yp : List Pt) (b' : Nat) (x' : Lx) (op : List Pt) (A C : Nat) : Prop where
  pq : Pq P w0 w b S room x fp yb sv v yp
  old : ∃ B, w0.heap.size ≤ B ∧ Lf B P w b' S room x' op
  a1 : ∀ k, Tl b x k → A ≤ k ∧ k < C
  a2 : ∀ k, Tl b' x' k → k < A ∨ C ≤ k
  le : C ≤ w.heap.size
theorem pq_clone {P : Nat → Prop} {w0 w : World} {b : Nat} {S : List Sc} {room : Int} {x : Lx} {fp : List Pt} {yb : Nat} {sv v : Value} {yp : List Pt} (h : Pq P w0 w b S room x fp yb sv v yp) (hn : fp.length ≤ 1000) :
    Calls Tryz.prog 10 #[dp b] w fun e w' => ∃ b' x', e = .returned (dp b') ∧ Po P w0 w' b' S room x' fp yb sv v yp b x fp w.heap.size w'.heap.size ∧ Below w.heap.size w w' := by
  obtain ⟨⟨B, h1, h2⟩, ⟨C, h3, h4⟩, h5⟩ := h
  refine (lclone_any h2 hn).mono ?_
  rintro e w' ⟨b', x', he, h6, h7⟩
  exact ⟨b', x', he, ⟨⟨⟨_, h5.size, h6⟩, ⟨C, h3, h4.on h7⟩, h5.trans (h7.mono h5.size)⟩, ⟨B, h1, h2.on h7⟩, fun k hk => ⟨h6.T_ge hk, h6.T_lt hk⟩, fun k hk => .inl (h2.T_lt hk), Nat.le_refl _⟩, h7⟩
theorem po_wr {P : Nat → Prop} {w0 w : World} {b : Nat} {S : List Sc} {room : Int} {x : Lx} {fp : List Pt} {yb : Nat} {sv v : Value} {yp : List Pt} {b' : Nat} {x' : Lx} {op : List Pt} {A C : Nat} {u : Value} {p : Pt} (h : Po P w0 w b S room x fp yb sv v yp b' x' op A C) (hp : ∀ w', Kp (Tl b' x') w w' → PtAt w' u p) (hc : checkS S = 0) (hn : op.length ≤ 254) (hr : ∀ v ∈ p.ks, SN.Rng v) (hP : ∀ k, w.heap.size ≤ k → P k) :
    Calls Tryz.prog 11 #[dp b', u] w fun e w' => ∃ r z, e = .returned (.tuple #[.bool r, .int .i64 z]) ∧ ∃ x2, Po P w0 w' b S room x fp yb sv v yp b' x2 (wrL S room op p) A C ∧ Kp (Tl b' x') w w' := by
  obtain ⟨⟨⟨B, h1, h2⟩, ⟨D, h3, h4⟩, h5⟩, ⟨E, h6, h7⟩, ha1, ha2, hle⟩ := h
  refine (write_any h7 hp hc hn hr hP).mono ?_
  rintro e w' ⟨he, x2, h8, h9, h10⟩
  refine ⟨_, _, he, x2, ⟨⟨⟨B, h1, h2.other h7 h9 fun k hk e => ?_⟩, ⟨D, h3, h4.beside h7 h9⟩, h5.trans (h9.below h5.size fun k hk => Nat.le_trans h6 (h7.T_ge hk))⟩, ⟨E, h6, h8⟩, ha1, fun k hk => ?_, Nat.le_trans hle h9.size⟩, h9⟩
  · have := ha1 k hk; have := ha2 k e; omega
  · rcases h10 k hk with e | e
    · exact ha2 k e
    · exact .inr (by omega)
/- A point's box, with two rows of one's own. -/
structure Bx (w : World) (BX C : Nat) (sc : ByteArray) (tm : Int) (u1 u2 : Value) (r1 r2 : Rw) : Prop where
  blk : w.heap[BX]? = some (.cells #[.string sc, u1, .int .i64 tm, u2] 34)
  o1 : Own Vl.cells 11 40 C w u1 r1
  o2 : Own Vl.cells 11 40 C w u2 r2
theorem Bx.kp {T : Nat → Prop} {w w' : World} {BX C : Nat} {sc : ByteArray} {tm : Int} {u1 u2 : Value} {r1 r2 : Rw} (h : Bx w BX C sc tm u1 u2 r1 r2) (hk : Kp T w w') (h0 : ¬ T BX) (h1 : ∀ k c fz, w.heap[k]? = some (.cells c 40 fz) → ¬ T k) : Bx w' BX C sc tm u1 u2 r1 r2 :=
  ⟨hk.blk h.blk h0, own_kp h.o1 hk (fun k e => let ⟨c, f, hc⟩ := own_kind h.o1 e; h1 k c f hc), own_kp h.o2 hk (fun k e => let ⟨c, f, hc⟩ := own_kind h.o2 e; h1 k c f hc)⟩
theorem Bx.on {w w' : World} {BX C : Nat} {sc : ByteArray} {tm : Int} {u1 u2 : Value} {r1 r2 : Rw} (h : Bx w BX C sc tm u1 u2 r1 r2) (hb : Below w.heap.size w w') : Bx w' BX C sc tm u1 u2 r1 r2 := h.kp (T := fun _ => False) (Kp.of hb) id (fun _ _ _ _ => id)
theorem Bx.tl {P : Nat → Prop} {w w' : World} {b : Nat} {S : List Sc} {room : Int} {x : Lx} {fp : List Pt} {B : Nat} {BX C : Nat} {sc : ByteArray} {tm : Int} {u1 u2 : Value} {r1 r2 : Rw} (h : Bx w BX C sc tm u1 u2 r1 r2) (hl : Lf B P w b S room x fp) (hk : Kp (Tl b x) w w') : Bx w' BX C sc tm u1 u2 r1 r2 :=
  h.kp hk (hl.T_no h.blk (.inr (.inl rfl))) (fun _ _ _ hc => hl.T_no hc (.inr (.inr (.inl rfl))))
theorem Bx.ty {P : Nat → Prop} {w w' : World} {yb : Nat} {sv : Value} {room : Int} {v : Value} {yp : List Pt} {B : Nat} {BX C : Nat} {sc : ByteArray} {tm : Int} {u1 u2 : Value} {r1 r2 : Rw} (h : Bx w BX C sc tm u1 u2 r1 r2) (hy : Rf B P w yb sv room v yp) (hn : ¬ Ty yb v BX) (hk : Kp (Ty yb v) w w') : Bx w' BX C sc tm u1 u2 r1 r2 :=
  h.kp hk hn (fun k c fz hc e => by
    obtain ⟨c', t, fz', hc', ht⟩ := hy.T_knd e
    rw [hc] at hc'
    injection hc' with hc'
    injection hc' with _ e2 _
    subst e2
    rcases ht with h | h <;> cases h)
end Go.Proofs.YtlbjbkhcnafhcaaGreat
namespace Go.Proofs.YtlbjbkhcnafhcaaGreat
open Go.RowKit Go.Sort Go.Shelf Go.Maps

theorem tabY_len {Q : Nat → Prop} {w : World} {v : Value} {cs : List Cl} {rs : List Rw} (h : TabY Q w v cs rs) : ∃ pc nc cc pr cr, v = .agg #[.slice pc nc cc, .slice pr rs.length cr] := tab_len h.tab
theorem pq_scanF {P : Nat → Prop} {w0 w : World} {b : Nat} {S : List Sc} {room : Int} {x : Lx} {fp : List Pt} {yb : Nat} {sv v : Value} {yp : List Pt} {nm : ByteArray} {a z er : Int} {cs : List Cl} {rs : List Rw} {m : Nat} (h : Pq P w0 w b S room x fp yb sv v yp) (hc : checkS S = 0) (hl : fp.length ≤ 254) (hz : ∀ p ∈ fp, List.length p.ks ≤ 4 ∧ List.length p.vs ≤ 4) (e1 : scE S nm = er) (e2 : scC S nm = cs) (e3 : scR S fp nm a z = rs) (hm : rs.length = m) :
    Calls Tryz.prog 13 #[dp b, .string nm, .int .i64 a, .int .i64 z] w fun e w' => ∃ pc nc cc pr cr, e = .returned (.tuple #[.agg #[.slice pc nc cc, .slice pr m cr], .int .i64 er]) ∧ TabY (fun k => w.heap.size ≤ k) w' (.agg #[.slice pc nc cc, .slice pr m cr]) cs rs ∧ Below w.heap.size w w' := by
  obtain ⟨⟨B, h1, h2⟩, _, _⟩ := h
  refine (scan_anyT h2 hc hl hz).mono ?_
  rintro e w' ⟨v, rfl, ht, hb⟩
  rw [e2, e3] at ht
  obtain ⟨pc, nc, cc, pr, cr, rfl⟩ := tabY_len ht
  rw [hm] at ht ⊢
  exact ⟨pc, nc, cc, pr, cr, by rw [e1], ht, hb⟩
theorem pq_scanY {P : Nat → Prop} {w0 w : World} {b : Nat} {S : List Sc} {room : Int} {x : Lx} {fp : List Pt} {yb : Nat} {ps : Option Addr} {ns cc0 : Nat} {v : Value} {yp : List Pt} {nm : ByteArray} {a z er : Int} {cs : List Cl} {rs : List Rw} (h : Pq P w0 w b S room x fp yb (.slice ps ns cc0) v yp) (hs : SchsAt w (.slice ps ns cc0) S) (hc : checkS S = 0) (hl : yp.length ≤ 254) (hz : ∀ p ∈ yp, List.length p.ks ≤ 4 ∧ List.length p.vs ≤ 4) (e1 : scE S nm = er) (e2 : scC S nm = cs) (e3 : scR S yp nm a z = rs) :
    Calls Tryz.prog 14 #[dp yb, .string nm, .int .i64 a, .int .i64 z] w fun e w' => ∃ pc nc cc pr nr cr, e = .returned (.tuple #[.agg #[.slice pc nc cc, .slice pr nr cr], .int .i64 er]) ∧ TabIn (fun k => w.heap.size ≤ k) w' (.agg #[.slice pc nc cc, .slice pr nr cr]) cs rs ∧ Below w.heap.size w w' := by
  obtain ⟨_, ⟨B, h1, h2⟩, _⟩ := h
  refine (rfscan_any h2 hs hc hl hz).mono ?_
  rintro e w' ⟨v, rfl, ht, hb⟩
  rw [e2, e3] at ht
  obtain ⟨pc, nc, cc, pr, cr, rfl⟩ := tab_len ht
  exact ⟨pc, nc, cc, pr, _, cr, by rw [e1], ht, hb⟩
set_option maxRecDepth 100000 in
set_option maxHeartbeats 1000000 in
theorem plays_bad {w : World} {p : Option Addr} {cap n : Nat} {S : List Sc} {v : Value} {room : Int} (hs : SchsAt w (.slice p n cap) S) (hn : n = S.length) (hc : checkS (S.take 10) = 50) :
    Calls Tryz.prog 3 #[.slice p n cap, .int .i64 room, v] w fun e w' => e = .returned (.bool true) ∧ Below w.heap.size w w' := by
  have HC := hid hc
  have HS := hid hs
  have hcap : n ≤ cap := by obtain ⟨hs', ⟨p', cap', hv, hc', _⟩, hh⟩ := hs; cases hv; exact hc'.1
  have hnm : n ≤ 9223372036854775807 := by obtain ⟨hs', ⟨p', cap', hv, hc', hm, _⟩, hh⟩ := hs; cases hv; unfold maxLen at hm; omega
  have HN := hid hn
  clear hs hc hn
  by_cases h10 : 10 < n
  · have HS10 := hid (schs_take HS.out (show 10 ≤ n by omega))
    go_enter Tryz.func3, Tryz.ntmps3
    go_wp2_with (first
      | (go_at_call 7; refine shown_is.mono ?_; rintro e w1 ⟨rfl, hb1⟩; have HB1 := hid hb1; clear hb1)
      | (go_at_call 8; refine (lnew_bad (room := room) (HS10.out.on HB1.out) HC.out).mono ?_; rintro e w3 ⟨rfl, hb3⟩; have HB3 := hid (HB1.out.trans (hb3.mono HB1.out.size)); clear hb3)
      | (go_at_call 9; refine (rfnew_bad (room := room) (HS10.out.on HB3.out) HC.out).mono ?_; rintro e w4 ⟨rfl, hb4⟩; have HB4 := hid (HB3.out.trans (hb4.mono HB3.out.size)); clear hb4))
    go_ret
    exact ⟨rfl, HB4.out⟩
  · have HC' : Hid (checkS S = 50) := by have := HC.out; rw [List.take_of_length_le (by rw [← HN.out]; omega)] at this; exact this
    go_enter Tryz.func3, Tryz.ntmps3
    go_wp2_with (first
      | (go_at_call 7; refine shown_is.mono ?_; rintro e w1 ⟨rfl, hb1⟩; have HB1 := hid hb1; clear hb1)
      | (go_at_call 8; refine (lnew_bad (room := room) (HS.out.on HB1.out) HC'.out).mono ?_; rintro e w3 ⟨rfl, hb3⟩; have HB3 := hid (HB1.out.trans (hb3.mono HB1.out.size)); clear hb3)
      | (go_at_call 9; refine (rfnew_bad (room := room) (HS.out.on HB3.out) HC'.out).mono ?_; rintro e w4 ⟨rfl, hb4⟩; have HB4 := hid (HB3.out.trans (hb4.mono HB3.out.size)); clear hb4))
    go_ret
    exact ⟨rfl, HB4.out⟩
/- A box's field is set; a row of one's own in a younger block stays. -/
theorem box_own {w : World} {BX i B : Nat} {u v : Value} {r : Rw} (ho : Own Vl.cells 11 40 B w u r) (hX : BX < B) : Own Vl.cells 11 40 B (w.setCell ⟨BX, i, none⟩ v) u r :=
  own_kp (T := fun k => k = BX) ho (Kp.set (T := fun k => k = BX) rfl v) (fun k e e' => by have := (own_at ho e).1; have e2 : k = BX := e'; omega)
theorem box_below {w0 w : World} {BX i : Nat} {v : Value} (hb : Below BX w0 w) (hs : BX ≤ w.heap.size) : Below BX w0 (w.setCell ⟨BX, i, none⟩ v) :=
  hb.trans ((Kp.set (T := fun k => k = BX) rfl v).below hs (fun k e => by have e' : k = BX := e; omega))
theorem Po.arg {P : Nat → Prop} {w0 w : World} {b : Nat} {S : List Sc} {room : Int} {x : Lx} {fp : List Pt} {yb : Nat} {sv v : Value} {yp : List Pt} {b' : Nat} {x' : Lx} {op : List Pt} {A C : Nat} {u : Value} {p : Pt} (h : Po P w0 w b S room x fp yb sv v yp b' x' op A C) (hp : PtAt w0 u p) : ∀ w', Kp (Tl b' x') w w' → PtAt w' u p := fun _ hk => by
  obtain ⟨B, h1, h2⟩ := h.old
  exact hp.on (h.pq.bel.trans (hk.below h.pq.bel.size fun k e => Nat.le_trans h1 (h2.T_ge e)))
theorem Po.bx {P : Nat → Prop} {w0 w w' : World} {b : Nat} {S : List Sc} {room : Int} {x : Lx} {fp : List Pt} {yb : Nat} {sv v : Value} {yp : List Pt} {b' : Nat} {x' : Lx} {op : List Pt} {A C BX D : Nat} {sc : ByteArray} {tm : Int} {u1 u2 : Value} {r1 r2 : Rw} (h : Po P w0 w b S room x fp yb sv v yp b' x' op A C) (hx : Bx w BX D sc tm u1 u2 r1 r2) (hk : Kp (Tl b' x') w w') : Bx w' BX D sc tm u1 u2 r1 r2 := by
  obtain ⟨B, h1, h2⟩ := h.old
  exact hx.tl h2 hk
theorem Pq.bxF {P : Nat → Prop} {w0 w w' : World} {b : Nat} {S : List Sc} {room : Int} {x : Lx} {fp : List Pt} {yb : Nat} {sv v : Value} {yp : List Pt} {BX D : Nat} {sc : ByteArray} {tm : Int} {u1 u2 : Value} {r1 r2 : Rw} (h : Pq P w0 w b S room x fp yb sv v yp) (hx : Bx w BX D sc tm u1 u2 r1 r2) (hk : Kp (Tl b x) w w') : Bx w' BX D sc tm u1 u2 r1 r2 := by
  obtain ⟨B, h1, h2⟩ := h.lf
  exact hx.tl h2 hk
theorem Pq.bxY {P : Nat → Prop} {w0 w w' : World} {b : Nat} {S : List Sc} {room : Int} {x : Lx} {fp : List Pt} {yb : Nat} {sv v : Value} {yp : List Pt} {BX D : Nat} {sc : ByteArray} {tm : Int} {u1 u2 : Value} {r1 r2 : Rw} (h : Pq P w0 w b S room x fp yb sv v yp) (hx : Bx w BX D sc tm u1 u2 r1 r2) (hn : ∀ k, Ty yb v k → k < BX) (hk : Kp (Ty yb v) w w') : Bx w' BX D sc tm u1 u2 r1 r2 := by
  obtain ⟨B, h1, h2⟩ := h.rf
  exact hx.ty h2 (fun e => Nat.lt_irrefl _ (hn _ e)) hk
theorem Bx.pt {w : World} {BX D : Nat} {q : Pt} {p1 p2 : Option Addr} {d1 d2 nk nv : Nat} (h : Bx w BX D q.sc q.tm (.slice p1 nk d1) (.slice p2 nv d2) q.ks q.vs) (h1 : List.length q.ks = nk) (h2 : List.length q.vs = nv) (l1 : List.length q.ks * bsz 11 ≤ 140737488355328) (l2 : List.length q.vs * bsz 11 ≤ 140737488355328) : PtT any w (.agg #[.string q.sc, .slice p1 nk d1, .int .i64 q.tm, .slice p2 nv d2]) q := by
  subst h1 h2
  exact ⟨_, _, _, _, rfl, own_rowT h.o1 (fun _ _ => trivial) l1, own_rowT h.o2 (fun _ _ => trivial) l2⟩
theorem Bx.ne1 {w : World} {BX C : Nat} {sc : ByteArray} {tm : Int} {u1 u2 : Value} {r1 r2 : Rw} (h : Bx w BX C sc tm u1 u2 r1 r2) : ¬ u1.ownBlock = some BX := fun e => by
  obtain ⟨c, f, hc⟩ := own_kind h.o1 e
  rw [h.blk] at hc; cases hc
theorem Bx.ne2 {w : World} {BX C : Nat} {sc : ByteArray} {tm : Int} {u1 u2 : Value} {r1 r2 : Rw} (h : Bx w BX C sc tm u1 u2 r1 r2) : ¬ u2.ownBlock = some BX := fun e => by
  obtain ⟨c, f, hc⟩ := own_kind h.o2 e
  rw [h.blk] at hc; cases hc
theorem step_call4 {ops : Array Oper} {o : Oper} {a : Act} {w : World} {K : Act → World → Prop} {Q : Exit → Act → World → Prop} {E : Prop} {f : FuncId} {v v2 v3 v4 : Value} (hgd : o.guard = none) (x y z u : Operand) (t t2 t3 t4 : TypeId)
    (ho : o.op = .call { callee := .value (.func f), args := #[x, y, z, u], argTypes := #[t, t2, t3, t4] }) (hx : a.eval x = v) (hy : a.eval y = v2) (hz : a.eval z = v3) (hu : a.eval u = v4) (hen : ∀ args w, (callFunc f args).run Tryz.prog w = .ok (.enter f args) w)
    (hc : Calls Tryz.prog f #[v, v2, v3, v4] w fun e w' => ∃ u, e = .returned u ∧ K (a.put o.dst u) w') : if Region.wanted o (yielded ops a.tmps) = true then Oper.wp Tryz.prog o a w K Q else E := by
  have hw : Region.wanted o (yielded ops a.tmps) = true := by simp [Region.wanted, hgd]
  rw [if_pos hw]
  unfold Oper.wp
  have hr : (execOp a.eval o).run Tryz.prog w = .ok (.enter f #[v, v2, v3, v4]) w := by
    simp [execOp, ho, resolve, invoke, hen, go_sem]
    rw [← hx, ← hy, ← hz, ← hu]
    cases x <;> cases y <;> cases z <;> cases u <;> simp [Act.eval]
  rw [hr, Oper.upon_enter]
  refine hc.mono ?_
  rintro e w' ⟨u, rfl, hk⟩
  exact hk
theorem enters13 : ∀ args w, (callFunc 13 args).run Tryz.prog w = .ok (.enter 13 args) w := enters_of Tryz.func13 (by kernel_rfl) rfl
theorem enters14 : ∀ args w, (callFunc 14 args).run Tryz.prog w = .ok (.enter 14 args) w := enters_of Tryz.func14 (by kernel_rfl) rfl
/- Two cells of an argument. -/
abbrev SG (g i : Nat) (x y : Value) (w : World) : Prop := w.cell? ⟨g, i, none⟩ = some x ∧ w.cell? ⟨g, i + 2, none⟩ = some y
theorem sgD {g i : Nat} {x y : Value} {w : World} (h : SG g i x y w) : SG g i x y w.drew := h
theorem sgA {g i : Nat} {x y : Value} {w : World} (h : SG g i x y w) (o : Obj) : SG g i x y (w.alloc o) := ⟨Lib.cell?_alloc_some _ h.1, Lib.cell?_alloc_some _ h.2⟩
theorem sgW {g i T j : Nat} {x y v : Value} {w : World} (h : SG g i x y w) (hn : g < T) : SG g i x y (w.setCell ⟨T, j, none⟩ v) := by
  have hb : (w.setCell ⟨T, j, none⟩ v).heap[g]? = w.heap[g]? := Below.heap_setCell _ _ _ _ (by show g ≠ T; omega)
  exact ⟨(World.cell?_of_block (a := ⟨g, i, none⟩) hb).trans h.1, (World.cell?_of_block (a := ⟨g, i + 2, none⟩) hb).trans h.2⟩
theorem sgOn {g i : Nat} {x y : Value} {w w' : World} (h : SG g i x y w) (hb : Below w.heap.size w w') : SG g i x y w' := ⟨SN.cell_onB h.1 hb, SN.cell_onB h.2 hb⟩
/- A table's box, made ahead of the call that tells the table. -/
theorem t44_first {W w : World} {T : Nat} {a b x y : Value} (hk : w.heap[T]? = some (.cells #[a, b] 44)) (hT : W.heap.size ≤ T) (hb : Below W.heap.size W w) : ((w.setCell ⟨T, 0, none⟩ x).setCell ⟨T, 1, none⟩ y).heap[T]? = some (.cells #[x, y] 44) ∧ Below W.heap.size W ((w.setCell ⟨T, 0, none⟩ x).setCell ⟨T, 1, none⟩ y) := by
  have := Joins.block_setCell (i := 1) (Joins.block_setCell (i := 0) hk x) y
  exact ⟨by simpa using this, (hb.setCell hT _).setCell hT _⟩
theorem scR_len {S : List Sc} {pts : List Pt} {nm : ByteArray} {a z : Int} : (scR S pts nm a z).length ≤ pts.length := by
  unfold scR
  split
  · simp
  · exact scan_le pts nm a z
theorem scR_ne {S : List Sc} {pts : List Pt} {nm : ByteArray} {a z : Int} : ∀ r ∈ scR S pts nm a z, r ≠ [] := by
  intro r hr
  unfold scR at hr
  split at hr
  · cases hr
  · have h := (sortR_perm (scanR pts nm a z)).mem_iff.1 hr
    unfold scanR at h
    obtain ⟨q, _, rfl⟩ := List.mem_map.1 h
    simp [rowP]
theorem tabY_first {Q : Nat → Prop} {w : World} {pc pr : Option Addr} {nc cc m cr : Nat} {cs : List Cl} {rs : List Rw} (h : TabY Q w (.agg #[.slice pc nc cc, .slice pr m cr]) cs rs) (hm : rs.length = m) (h0 : 0 < m) (hne : ∀ r ∈ rs, r ≠ []) :
    ∃ gr i g o n c arr, pr = some ⟨gr, i, none⟩ ∧ w.cell? ⟨gr, i, none⟩ = some (.slice (some ⟨g, o, none⟩) n c) ∧ 0 < n ∧ n ≤ 140737488355328 ∧ Q g ∧ w.heap[g]? = some (.cells arr 40) ∧ o + 11 ≤ arr.size := by
  obtain ⟨c', r', he, -, hs, ⟨p', cap', hv, hcap, hmx, hx⟩, hh⟩ := h
  injection he with he
  injection he with he
  injection he with e1 he
  injection he with e2 _
  subst e1 e2
  injection hv with hv1 hv2 hv3
  subst hv1 hv3
  have hlen : hs.length = rs.length := hh.1
  have hs0 : 0 < hs.length := by omega
  have hr0 : 0 < rs.length := by omega
  obtain ⟨gr, i, hp, -, hcell⟩ := hx (by intro e; rw [e] at hs0; simp at hs0)
  have hc0 := hcell 0 _ (List.getElem?_eq_getElem hs0) 0 _ rfl
  obtain ⟨p0, c0, hv0, hcap0, hmx0, hx0⟩ := hh.2 0 _ _ (List.getElem?_eq_getElem hs0) (List.getElem?_eq_getElem hr0)
  have hne0 := hne _ (List.getElem_mem hr0)
  obtain ⟨g, o, hp0, ⟨⟨hQ, arr, ⟨fz, hfz⟩, hb⟩, hbd⟩, hcell0⟩ := hx0 hne0
  have hn0 : 0 < List.length rs[0] := by cases hrr : rs[0] with
    | nil => exact absurd hrr hne0
    | cons a t => simp
  subst hfz
  rw [hv0, hp0] at hc0
  refine ⟨gr, i, g, o, _, c0, arr, hp, by simpa using hc0, hn0, ?_, hQ, hb, ?_⟩
  · unfold bsz at hbd; simp at hbd; omega
  · have hx := hcell0 0 _ (List.getElem?_eq_getElem hn0) 10 ((Vl.cells rs[0][0])[10]'(by rw [vl_len]; decide)) (List.getElem?_eq_getElem _)
    have h1 := block_cell hb (o + 0 * 11 + 10)
    rw [hx] at h1
    have := (Array.getElem?_eq_some_iff.1 h1.symm).1
    omega
theorem pq_points {P : Nat → Prop} {w0 w : World} {b : Nat} {S : List Sc} {room : Int} {x : Lx} {fp : List Pt} {yb : Nat} {sv v : Value} {yp : List Pt} {n : Nat} (h : Pq P w0 w b S room x fp yb sv v yp) (hn : fp.length = n) : Calls Tryz.prog 16 #[dp b] w fun e w' => e = .returned (.int .i64 (n : Int)) ∧ Below w.heap.size w w' := by
  obtain ⟨⟨B, h1, h2⟩, _, _⟩ := h
  rw [← hn]
  exact (points_any h2).mono fun e w' ⟨he, hw⟩ => ⟨he, by rw [hw]; exact Below.refl _ _⟩
theorem pq_y {P : Nat → Prop} {w0 w : World} {b : Nat} {S : List Sc} {room : Int} {x : Lx} {fp : List Pt} {yb : Nat} {sv v : Value} {yp : List Pt} {n : Nat} (h : Pq P w0 w b S room x fp yb sv v yp) (hn : yp.length = n) (hl : n ≤ 1000) : ∃ p c, w.heap[yb]? = some (.cells #[sv, .int .i64 room, .slice p n c] 50) := by
  obtain ⟨_, ⟨B, h1, h2⟩, _⟩ := h
  obtain ⟨p, c, hv, _⟩ := h2.get (by omega)
  rw [hn] at hv
  exact ⟨p, c, by rw [← hv]; exact h2.blk⟩
def NW (N N2 k : Nat) : Prop := k < N ∨ N2 ≤ k
/- The shape of a row that is written. -/
def OwB (w : World) (p : Option Addr) (n : Nat) : Prop := 0 < n → ∃ g arr, p = some ⟨g, 0, none⟩ ∧ w.heap[g]? = some (.cells arr 40) ∧ n * 11 ≤ arr.size
theorem own_blk {B : Nat} {w : World} {p : Option Addr} {n c : Nat} {r : Rw} (h : Own Vl.cells 11 40 B w (.slice p n c) r) (hn : List.length r = n) : OwB w p n := by
  intro h0
  rcases h.2 with ⟨hv, h1⟩ | ⟨g, cap, cur, hv, hg, hblk, hc, hm, hs, -⟩
  · omega
  · injection hv with h1 h2 h3
    refine ⟨g, cur, h1, hblk, ?_⟩
    rw [hs]
    exact Nat.mul_le_mul_right _ (by omega)
theorem cells11 {w : World} {g : Nat} {arr : Array Value} {t : TypeId} {i : Nat} (hb : w.heap[g]? = some (.cells arr t)) (hs : i + 11 ≤ arr.size) :
    ∃ a0 a1 a2 a3 a4 a5 a6 a7 a8 a9 a10, w.cell? ⟨g, i, none⟩ = some a0 ∧ w.cell? ⟨g, i + 1, none⟩ = some a1 ∧ w.cell? ⟨g, i + 2, none⟩ = some a2 ∧ w.cell? ⟨g, i + 3, none⟩ = some a3 ∧ w.cell? ⟨g, i + 4, none⟩ = some a4 ∧ w.cell? ⟨g, i + 5, none⟩ = some a5 ∧ w.cell? ⟨g, i + 6, none⟩ = some a6 ∧ w.cell? ⟨g, i + 7, none⟩ = some a7 ∧ w.cell? ⟨g, i + 8, none⟩ = some a8 ∧ w.cell? ⟨g, i + 9, none⟩ = some a9 ∧ w.cell? ⟨g, i + 10, none⟩ = some a10 := by
  have h : ∀ j, j < arr.size → ∃ a, w.cell? ⟨g, j, none⟩ = some a := fun j hj => ⟨arr[j], by rw [block_cell hb, Array.getElem?_eq_getElem hj]⟩
  obtain ⟨a0, h0⟩ := h i (by omega)
  obtain ⟨a1, h1⟩ := h (i + 1) (by omega)
  obtain ⟨a2, h2⟩ := h (i + 2) (by omega)
  obtain ⟨a3, h3⟩ := h (i + 3) (by omega)
  obtain ⟨a4, h4⟩ := h (i + 4) (by omega)
  obtain ⟨a5, h5⟩ := h (i + 5) (by omega)
  obtain ⟨a6, h6⟩ := h (i + 6) (by omega)
  obtain ⟨a7, h7⟩ := h (i + 7) (by omega)
  obtain ⟨a8, h8⟩ := h (i + 8) (by omega)
  obtain ⟨a9, h9⟩ := h (i + 9) (by omega)
  obtain ⟨a10, h10⟩ := h (i + 10) (by omega)
  exact ⟨a0, a1, a2, a3, a4, a5, a6, a7, a8, a9, a10, h0, h1, h2, h3, h4, h5, h6, h7, h8, h9, h10⟩
end Go.Proofs.YtlbjbkhcnafhcaaGreat
