/-
  What the statements' load and point return; what a leaf does with them.
-/
import Derived.Test.YtlbjbkhcnafhcaaGreatQLScan
import Derived.Test.YtlbjbkhcnafhcaaGreatQLWrite4
namespace Go.Proofs.YtlbjbkhcnafhcaaGreat
open Go.RowKit Go.Sort Go.Shelf Go.Maps

def nLoad : ByteArray := ⟨#[108, 111, 97, 100]⟩
def cHost : Cl := ⟨⟨#[104, 111, 115, 116]⟩, 2, by decide⟩
def cNum : Cl := ⟨⟨#[110]⟩, 1, by decide⟩
def scLoad : Sc := ⟨nLoad, [cHost], [cNum], by decide⟩
def vStr (s : ByteArray) (h : s.size ≤ maxLen) : Vl := ⟨2, 0, s, 0, 0, 0, 0, 0, 0, 0, 0, h⟩
def ptL (s : ByteArray) (h : s.size ≤ maxLen) (t n : Int) : Pt := ⟨nLoad, [vStr s h], t, [vT n], by decide⟩
theorem check_load : checkS [scLoad] = 0 := by decide +kernel
/- A point whose rows lie in blocks of values. -/
def PtT (Q : Nat → Prop) (w : World) (u : Value) (p : Pt) : Prop := ∃ pk ck pv cv, u = .agg #[.string p.sc, .slice pk (List.length p.ks) ck, .int .i64 p.tm, .slice pv (List.length p.vs) cv] ∧ RowIn (ty36 Q w) w (.slice pk (List.length p.ks) ck) p.ks ∧ RowIn (ty36 Q w) w (.slice pv (List.length p.vs) cv) p.vs
theorem PtT.kp {Q T : Nat → Prop} {w w' : World} {u : Value} {p : Pt} (h : PtT Q w u p) (hk : Kp T w w') (ht : ∀ k, ty36 Q w k → ¬ T k) : PtT Q w' u p := let ⟨a, b, c, d, e, h1, h2⟩ := h; ⟨a, b, c, d, e, row_kp h1 hk ht, row_kp h2 hk ht⟩
theorem PtT.on {Q : Nat → Prop} {w w' : World} {u : Value} {p : Pt} (h : PtT Q w u p) (hb : Below w.heap.size w w') : PtT Q w' u p := h.kp (T := fun _ => False) (Kp.of hb) (fun _ _ => id)
theorem PtT.at {Q : Nat → Prop} {w : World} {u : Value} {p : Pt} (h : PtT Q w u p) : PtAt w u p := let ⟨_, _, _, _, e, h1, h2⟩ := h; ⟨_, _, e, h1.imp fun _ _ => trivial, h2.imp fun _ _ => trivial⟩
theorem PtT.keep {Q : Nat → Prop} {w : World} {u : Value} {p : Pt} (h : PtT Q w u p) {B : Nat} {P : Nat → Prop} {b : Nat} {S : List Sc} {room : Int} {x : Lx} {pts : List Pt} (hl : Lf B P w b S room x pts) : ∀ w', Kp (Tl b x) w w' → PtAt w' u p := fun _ hk => by
  obtain ⟨l, R, h1, _⟩ := hl.lk
  exact (h.kp hk fun k hk => h1.ty_not hk).at
theorem colT_lit {w : World} {B : Nat} {c : Cl} (h : w.heap[B]? = some (.cells #[.string c.nm, .int .i64 c.kd] 90)) : ColsAt w (.slice (some ⟨B, 0, none⟩) 1 1) [c] :=
  (lit_sl (xs := [c]) h cl_len rfl rfl (Nat.le_refl _) (by simp)).imp fun _ _ => trivial
set_option maxRecDepth 100000 in
set_option maxHeartbeats 1000000 in
theorem load_any {w : World} : Calls Tryz.prog 17 #[] w fun e w' => ∃ v, e = .returned v ∧ SchsAt w' v [scLoad] ∧ Below w.heap.size w w' := by
  go_enter Tryz.func17, Tryz.ntmps17
  go_wp2
  go_ret
  have b1 := (Below.refl w.heap.size w).alloc (Nat.le_refl _) (.cells #[.string ⟨#[104, 111, 115, 116]⟩, .int .i64 2] 90)
  have b2 := b1.alloc b1.size (.cells #[.string ⟨#[110]⟩, .int .i64 1] 90)
  have k1 := alloc_block w (.cells #[.string ⟨#[104, 111, 115, 116]⟩, .int .i64 2] 90)
  have k2 := alloc_block (w.alloc (.cells #[.string ⟨#[104, 111, 115, 116]⟩, .int .i64 2] 90)) (.cells #[.string ⟨#[110]⟩, .int .i64 1] 90)
  have k3 := alloc_block ((w.alloc (.cells #[.string ⟨#[104, 111, 115, 116]⟩, .int .i64 2] 90)).alloc (.cells #[.string ⟨#[110]⟩, .int .i64 1] 90)) (.cells #[.string ⟨#[108, 111, 97, 100]⟩, .slice (some ⟨w.heap.size, 0, none⟩) 1 1, .slice (some ⟨w.heap.size + 1, 0, none⟩) 1 1] 52)
  rw [World.size_alloc] at k2
  rw [World.size_alloc, World.size_alloc] at k3
  have b3 := b2.alloc b2.size (.cells #[.string ⟨#[108, 111, 97, 100]⟩, .slice (some ⟨w.heap.size, 0, none⟩) 1 1, .slice (some ⟨w.heap.size + 1, 0, none⟩) 1 1] 52)
  have k1' := blk_upS (blk_upS k1 (.cells #[.string ⟨#[110]⟩, .int .i64 1] 90)) (.cells #[.string ⟨#[108, 111, 97, 100]⟩, .slice (some ⟨w.heap.size, 0, none⟩) 1 1, .slice (some ⟨w.heap.size + 1, 0, none⟩) 1 1] 52)
  have k2' := blk_upS k2 (.cells #[.string ⟨#[108, 111, 97, 100]⟩, .slice (some ⟨w.heap.size, 0, none⟩) 1 1, .slice (some ⟨w.heap.size + 1, 0, none⟩) 1 1] 52)
  refine ⟨_, rfl, ⟨[⟨nLoad, .slice (some ⟨w.heap.size, 0, none⟩) 1 1, .slice (some ⟨w.heap.size + 1, 0, none⟩) 1 1⟩], sh1 (h := ⟨nLoad, .slice (some ⟨w.heap.size, 0, none⟩) 1 1, .slice (some ⟨w.heap.size + 1, 0, none⟩) 1 1⟩) k3, rfl, fun j h s h1 h2 => ?_⟩, b3⟩
  have hj : j = 0 := by have := (List.getElem?_eq_some_iff.1 h1).1; simp at this; omega
  subst hj
  simp at h1 h2
  subst h1 h2
  exact ⟨rfl, colT_lit (c := cHost) k1', colT_lit (c := cNum) k2'⟩
theorem rowT_lit {Q : Nat → Prop} {w : World} {B : Nat} {x : Vl} (h : w.heap[B]? = some (.cells (vc x) 40)) (hq : Q B) : RowIn (ty36 Q w) w (.slice (some ⟨B, 0, none⟩) 1 1) [x] := by
  refine ⟨_, 1, rfl, ⟨Nat.le_refl _, fun e => by cases e⟩, by simp [maxLen], fun _ => ⟨B, 0, rfl, ⟨⟨hq, _, ⟨(0, 0), rfl⟩, h⟩, by simp [bsz]⟩, fun j y hj i u hu => ?_⟩⟩
  have hj0 : j = 0 := by have := (List.getElem?_eq_some_iff.1 hj).1; simp at this; omega
  subst hj0
  simp at hj
  subst hj
  rw [block_cell h]
  simpa [Vl.cells] using hu
set_option maxRecDepth 100000 in
set_option maxHeartbeats 1000000 in
theorem point_any {w : World} {s : ByteArray} (hs : s.size ≤ maxLen) {t n : Int} : Calls Tryz.prog 18 #[.string s, .int .i64 t, .int .i64 n] w fun e w' => ∃ u, e = .returned u ∧ PtT any w' u (ptL s hs t n) ∧ Below w.heap.size w w' := by
  go_enter Tryz.func18, Tryz.ntmps18
  go_wp2
  have b1 := (Below.refl w.heap.size w).alloc (Nat.le_refl _) (.cells #[.string ⟨#[108, 111, 97, 100]⟩, .slice (some ⟨w.heap.size + 1, 0, none⟩) 1 1, .int .i64 t, .slice (some ⟨w.heap.size + 1 + 1, 0, none⟩) 1 1] 34)
  have b2 := b1.alloc b1.size (.cells (vc (vStr s hs)) 40)
  have b3 := b2.alloc b2.size (.cells (vc (vT n)) 40)
  have k1 := alloc_block w (.cells #[.string ⟨#[108, 111, 97, 100]⟩, .slice (some ⟨w.heap.size + 1, 0, none⟩) 1 1, .int .i64 t, .slice (some ⟨w.heap.size + 1 + 1, 0, none⟩) 1 1] 34)
  have k2 := alloc_block (w.alloc (.cells #[.string ⟨#[108, 111, 97, 100]⟩, .slice (some ⟨w.heap.size + 1, 0, none⟩) 1 1, .int .i64 t, .slice (some ⟨w.heap.size + 1 + 1, 0, none⟩) 1 1] 34)) (.cells (vc (vStr s hs)) 40)
  have k3 := alloc_block ((w.alloc (.cells #[.string ⟨#[108, 111, 97, 100]⟩, .slice (some ⟨w.heap.size + 1, 0, none⟩) 1 1, .int .i64 t, .slice (some ⟨w.heap.size + 1 + 1, 0, none⟩) 1 1] 34)).alloc (.cells (vc (vStr s hs)) 40)) (.cells (vc (vT n)) 40)
  rw [World.size_alloc] at k2
  rw [World.size_alloc, World.size_alloc] at k3
  have k1' := blk_upS (blk_upS k1 (.cells (vc (vStr s hs)) 40)) (.cells (vc (vT n)) 40)
  have k2' := blk_upS k2 (.cells (vc (vT n)) 40)
  have kc := block_cell k1'
  simp only [vc, vStr, vT] at kc
  refine bodyPost_ret (v := .agg #[.string ⟨#[108, 111, 97, 100]⟩, .slice (some ⟨w.heap.size + 1, 0, none⟩) 1 1, .int .i64 t, .slice (some ⟨w.heap.size + 1 + 1, 0, none⟩) 1 1]) ?_ rfl ⟨_, rfl, ⟨some ⟨w.heap.size + 1, 0, none⟩, 1, some ⟨w.heap.size + 1 + 1, 0, none⟩, 1, rfl, rowT_lit (x := vStr s hs) k2' trivial, rowT_lit (x := vT n) k3 trivial⟩, b3⟩
  simp [results, Tryz.results18, go_sem, kc]
theorem fit_load {s : ByteArray} (hs : s.size ≤ maxLen) (h64 : s.size ≤ 64) {t : Int} (h0 : 0 ≤ t) (h1 : t < 1099511627776) (n : Int) : fitsS [scLoad] (ptL s hs t n) = 0 := by
  have ha : atS [scLoad] (ptL s hs t n).sc = ((0 : Nat) : Int) := show atS [scLoad] nLoad = ((0 : Nat) : Int) by decide +kernel
  have hv1 : validL (vStr s hs) = true := by simp [validL, vStr, validB, zeroH, eqH, h64]
  have hv2 : validL (vT n) = true := by simp [validL, vT, validB, zeroH, eqH, noText]
  have hp : fitP [scLoad][0]! (ptL s hs t n) = true := by
    show fitP scLoad (ptL s hs t n) = true
    simp only [fitP, Bool.and_eq_true, decide_eq_true_eq]
    refine ⟨rowB_yes rfl (fun j hj => ?_), rowB_yes rfl (fun j hj => ?_), h0, h1⟩
    · have : j = 0 := by simp [ptL] at hj; omega
      subst this
      show fitB 2 (vStr s hs) = true
      rw [fitB, hv1]; rfl
    · have : j = 0 := by simp [ptL] at hj; omega
      subst this
      show fitB 1 (vT n) = true
      rw [fitB, hv2]; rfl
  rw [fits_of ha hp]; rfl
theorem rng_load {s : ByteArray} (hs : s.size ≤ maxLen) (t n : Int) : ∀ v ∈ (ptL s hs t n).ks, SN.Rng v := by
  intro v hv
  simp [ptL] at hv
  subst hv
  have : SN.Rg 0 := by unfold SN.Rg; omega
  exact ⟨this, this, this, this, this, this, this, this, this⟩
/- A leaf above a world that stays. -/
structure Lv (w0 w : World) (b : Nat) (S : List Sc) (room : Int) (x : Lx) (pts : List Pt) : Prop where
  lf : ∃ B, w0.heap.size ≤ B ∧ Lf B any w b S room x pts
  bel : Below w0.heap.size w0 w
theorem Lv.on {w0 w w' : World} {b : Nat} {S : List Sc} {room : Int} {x : Lx} {pts : List Pt} (h : Lv w0 w b S room x pts) (hb : Below w.heap.size w w') : Lv w0 w' b S room x pts := let ⟨⟨B, h1, h2⟩, h3⟩ := h; ⟨⟨B, h1, h2.on hb⟩, h3.trans (hb.mono h3.size)⟩
theorem Lv.T_ge {w0 w : World} {b : Nat} {S : List Sc} {room : Int} {x : Lx} {pts : List Pt} (h : Lv w0 w b S room x pts) : ∀ k, Tl b x k → w0.heap.size ≤ k := fun k hk => by
  obtain ⟨⟨B, h1, h2⟩, _⟩ := h
  obtain ⟨l, R, h4, _⟩ := h2.lk
  exact Nat.le_trans h1 (h4.T_ge k hk)
theorem write_v {w0 w : World} {b : Nat} {S : List Sc} {room : Int} {x : Lx} {pts : List Pt} {u : Value} {p : Pt} {pts' : List Pt} {r : Bool} {z : Int} (h : Lv w0 w b S room x pts) (hp : ∀ w', Kp (Tl b x) w w' → PtAt w' u p) (hc : checkS S = 0) (hn : pts.length ≤ 254) (hr : ∀ v ∈ p.ks, SN.Rng v) (e1 : wrN S room pts p = r) (e2 : wrE S room pts p = z) (e3 : wrL S room pts p = pts') :
    Calls Tryz.prog 11 #[dp b, u] w fun e w' => e = .returned (.tuple #[.bool r, .int .i64 z]) ∧ ∃ x', Lv w0 w' b S room x' pts' ∧ Kp (Tl b x) w w' ∧ ∀ k, Tl b x' k → Tl b x k ∨ w.heap.size ≤ k := by
  obtain ⟨⟨B, h1, h2⟩, h3⟩ := id h
  refine (write_any h2 hp hc hn hr (fun _ _ => trivial)).mono ?_
  rintro e w' ⟨he, x', h4, h5, h6⟩
  rw [e1, e2] at he
  rw [e3] at h4
  exact ⟨he, x', ⟨⟨B, h1, h4⟩, h3.trans (h5.below h3.size (fun k hk => h.T_ge k hk))⟩, h5, h6⟩
theorem write_k {w0 w : World} {b : Nat} {S : List Sc} {room : Int} {x : Lx} {pts : List Pt} {u : Value} {p : Pt} {z : Int} (h : Lv w0 w b S room x pts) (hp : PtAt w u p) (hc : checkS S = 0) (hn : pts.length ≤ 254) (hr : ∀ v ∈ p.ks, SN.Rng v) (e1 : wrN S room pts p = false) (e2 : wrE S room pts p = z) :
    Calls Tryz.prog 11 #[dp b, u] w fun e w' => e = .returned (.tuple #[.bool false, .int .i64 z]) ∧ Below w.heap.size w w' := by
  obtain ⟨⟨B, h1, h2⟩, h3⟩ := h
  refine (write_notF (F := fun w' => Below w.heap.size w w') h2 hp hc hn hr e1 (fun _ h => h)).mono ?_
  rintro e w' ⟨he, h4⟩
  rw [e1, e2] at he
  exact ⟨he, h4⟩
theorem Lv.pt {w0 w : World} {b : Nat} {S : List Sc} {room : Int} {x : Lx} {pts : List Pt} {u : Value} {p : Pt} (h : Lv w0 w b S room x pts) (hp : PtT any w u p) : ∀ w', Kp (Tl b x) w w' → PtAt w' u p := let ⟨⟨_, _, h2⟩, _⟩ := h; hp.keep h2
theorem Lv.arg {w0 w : World} {b : Nat} {S : List Sc} {room : Int} {x : Lx} {pts : List Pt} {u : Value} {p : Pt} (h : Lv w0 w b S room x pts) (hp : PtAt w0 u p) : ∀ w', Kp (Tl b x) w w' → PtAt w' u p := fun _ hk => hp.on (h.bel.trans (hk.below h.bel.size h.T_ge))
theorem new_v {w0 w : World} {v : Value} {S : List Sc} {room : Int} (hv : SchsAt w v S) (hc : checkS S = 0) (hb : Below w0.heap.size w0 w) :
    Calls Tryz.prog 8 #[v, .int .i64 room] w fun e w' => ∃ b x, e = .returned (.tuple #[dp b, .int .i64 0]) ∧ Lv w0 w' b S room x [] ∧ Below w.heap.size w w' ∧ ∀ k, Tl b x k → w.heap.size ≤ k := by
  refine (lnew_ok (P := any) hv hc).mono ?_
  rintro e w' ⟨B, b, x, he, h1, h2, h3, h4⟩
  refine ⟨b, x, he, ⟨⟨B, Nat.le_trans hb.size h2, h1⟩, hb.trans (h4.mono hb.size)⟩, h4, fun k hk => ?_⟩
  obtain ⟨l, R, h5, _⟩ := h1.lk
  exact Nat.le_trans h2 (h5.T_ge k hk)
theorem scan_v {w0 w : World} {b : Nat} {S : List Sc} {room : Int} {x : Lx} {pts : List Pt} {nm : ByteArray} {a z : Int} {er : Int} {cs : List Cl} {rs : List Rw} (h : Lv w0 w b S room x pts) (hc : checkS S = 0) (hl : pts.length ≤ 254) (hz : ∀ p ∈ pts, List.length p.ks ≤ 4 ∧ List.length p.vs ≤ 4) (e1 : scE S nm = er) (e2 : scC S nm = cs) (e3 : scR S pts nm a z = rs) :
    Calls Tryz.prog 13 #[dp b, .string nm, .int .i64 a, .int .i64 z] w fun e w' => ∃ v, e = .returned (.tuple #[v, .int .i64 er]) ∧ TabIn (fun k => w.heap.size ≤ k) w' v cs rs ∧ Below w.heap.size w w' := by
  obtain ⟨⟨B, h1, h2⟩, h3⟩ := h
  refine (scan_any h2 hc hl hz).mono ?_
  rintro e w' ⟨v, he, ht, hb⟩
  rw [e1] at he
  rw [e2, e3] at ht
  exact ⟨v, he, ht, hb⟩
theorem points_v {w0 w : World} {b : Nat} {S : List Sc} {room : Int} {x : Lx} {pts : List Pt} {n : Nat} (h : Lv w0 w b S room x pts) (hn : pts.length = n) : Calls Tryz.prog 16 #[dp b] w fun e w' => e = .returned (.int .i64 (n : Int)) ∧ w' = w := by
  obtain ⟨⟨B, h1, h2⟩, h3⟩ := h
  rw [← hn]
  exact points_any h2
end Go.Proofs.YtlbjbkhcnafhcaaGreat
