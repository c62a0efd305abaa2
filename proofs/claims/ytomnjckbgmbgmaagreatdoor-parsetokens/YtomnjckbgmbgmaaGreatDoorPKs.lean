/-
  The reference's reader: not, ahead of an opening bracket.
  A node in its box, while the reference's reader reads on.
  The reference's reader: a test, as mathematics.
  The reference's reader: a test.
  The reference's reader takes aggregates: what it keeps.
  The reference's reader takes aggregates.
  The reference's reader takes a query: mathematics.
  The reference's reader takes a query.
  The reference's reader takes a step: what is kept, and mathematics.
-/
import Derived.Test.YtomnjckbgmbgmaaGreatDoorPKr
import Derived.Deep.MidRow
import Derived.Deep.RegionLaw
namespace Go.Proofs.YtomnjckbgmbgmaaGreatDoor
open Go.RowKit Go.Joins

section
variable {B : Nat} {ts : List Tp} {w w' : World} {rb : Nat} {tv sv : Value} {E : Int} {o i : Nat} {qs : List Nd}
theorem rsees_no (h : Ry B ts w rb tv sv E o i qs) {x : List UInt8} (hx : isE E ts i x = false) : Calls Tryz.prog 56 #[dp rb, .string (St x)] w fun e w' => e = .returned (.bool false) ∧ Ry B ts w' rb tv sv E o i qs ∧ Kp (fun k => k = rb) w w' := by
  have := rsees_any h x
  rw [hx] at this
  exact this
theorem rsees_yes (h : Ry B ts w rb tv sv E o i qs) {x : List UInt8} (hx : isE E ts i x = true) : Calls Tryz.prog 56 #[dp rb, .string (St x)] w fun e w' => e = .returned (.bool true) ∧ Ry B ts w' rb tv sv E o (i + 1) qs ∧ Kp (fun k => k = rb) w w' := by
  have := rsees_any h x
  rw [hx] at this
  exact this
theorem isE0 {x : List UInt8} : isE 0 ts i x = isW ts i x := rfl
/- Deeper than may be, nothing is read. -/
theorem rnot17 (p : PN) : PNy 98 B ts rb tv 17 p := fun w sv E i qs hO h => by
  have hE := hO (Nat.le_refl _)
  refine (rnot_err h hE).mono ?_
  rintro e w' ⟨rfl, rfl⟩
  exact ⟨Kp.refl _ _, 0, E, i, sv, qs, rfl, by omega, h, At.refl _ _, .inl ⟨if_neg hE, hE⟩⟩
theorem rcondB_any {p : PN} (hp : PNy 98 B ts rb tv o p) (hg : GoN ts p) : PNy 34 B ts rb tv o (condB ts p) := fun _ _ _ _ _ hO h =>
  rcond_any (p := bothB ts p) (fun _ _ _ _ _ hO h => rboth_any hp hg hO h) (both_go hg) hO h
theorem gon_bad : GoN ts (fun i _ => .bad i 2) := fun i ns r j h => by cases h
theorem rcond17 (h : Ry B ts w rb tv sv 2 (o + 1) i qs) (ho : o = 16) : Calls Tryz.prog 34 #[dp rb] w fun e w' => Kp (Tq rb sv) w w' ∧ ∃ (z : Int) (sv' : Value) (qs' : List Nd), e = .returned (.int .i64 z) ∧ (-1 ≤ z ∧ z ≤ 1024) ∧ Ry B ts w' rb tv sv' 2 (o + 1) i qs' ∧ At w sv sv' := by
  subst ho
  refine (rcondB_any (rnot17 (fun i _ => .bad i 2)) gon_bad w sv 2 i qs (fun _ => by decide) h).mono ?_
  rintro e w' ⟨hk, z, E, j, sv', qs', he, hz, hr, ha, hc⟩
  rcases hc with ⟨hb, hE⟩ | ⟨a, -, hb, -⟩
  · unfold lf at hb; rw [if_neg (by decide)] at hb; cases hb
    exact ⟨hk, z, sv', qs', he, hz, hr, ha⟩
  · unfold lf at hb; rw [if_neg (by decide)] at hb; cases hb
theorem open_fin {p : PN} {j j5 : Nat} {z E E5 : Int} {ns ns1 : List Np} (hn : isW ts i wNot = false) (hw : isW ts i wOpen = true) (h : Cm2 (lf 0 (i + 1) (condB ts p (i + 1) ns)) z ns1 j E) (h5 : Cm (lf E j (wantS ts wShut j)) () j5 E5) : Cm2 (lf 0 i (notB ts (some p) i ns)) z ns1 j5 E5 := by
  have e0 : lf 0 i (notB ts (some p) i ns) = (condB ts p (i + 1) ns).and fun r j => (wantS ts wShut j).and fun _ j => .ok r j := by
    unfold lf notB; rw [if_pos rfl, hn, if_neg (by decide), if_pos hw]
    unfold inBr; rw [if_pos hw]; rfl
  rw [e0]
  rcases h with ⟨h, hE⟩ | ⟨a, rfl, h, rfl⟩
  · unfold lf at h h5; rw [if_pos rfl] at h; rw [if_neg hE] at h5
    rw [h]
    rcases h5 with ⟨h5, hE5⟩ | ⟨h5, hE5⟩
    · cases h5; exact .inl ⟨rfl, hE⟩
    · cases h5
  · unfold lf at h h5; rw [if_pos rfl] at h h5
    rw [h]
    rcases h5 with ⟨h5, hE5⟩ | ⟨h5, rfl⟩
    · refine .inl ⟨?_, hE5⟩
      show (wantS ts wShut j).and _ = _
      rw [h5]; rfl
    · refine .inr ⟨a, rfl, ?_, rfl⟩
      show (wantS ts wShut j).and _ = _
      rw [h5]; rfl
set_option maxRecDepth 100000 in
set_option maxHeartbeats 400000 in
theorem rnot_open0 (ho : o = 16) (h : Ry B ts w rb tv sv 0 o i qs) (hn : isW ts i wNot = false) (hw : isW ts i wOpen = true) : Calls Tryz.prog 98 #[dp rb] w (Y2 B ts rb tv sv o w (lf 0 i (notB ts none i (qs.map (·.np))))) := by
  have k0 := h.cell
  have HQL := hid h.ql
  have HN := hid hn
  have HW := hid hw
  have HS := hid (rsees_no h (x := wNot) hn)
  have hk0 : ((o : Int) + 1) - 1 = o := by omega
  have o0 : (0 : Int) ≤ o := by omega
  have o1 : (o : Int) ≤ 17 := by have := h.ol; omega
  have HO16 := hid ho
  have M1 : Hid True := trivial
  generalize hT : lf 0 i (notB ts none i (qs.map (·.np))) = T at *
  have HTt := hid hT
  clear h hw hn hT ho
  go_enter Tryz.func98, Tryz.ntmps98
  go_upto_region 13 with (first
    | (go_at_call 56; have FIRST := M1; refine HS.out.mono ?_; rintro e w1 ⟨rfl, hq, hk⟩; have HQ1 := hid hq; have HK1 := hid hk; clear hq hk M1 FIRST)
    | (go_at_call 56; refine (rsees_yes HQ1.out (x := wOpen) HW.out).mono ?_; rintro e w1b ⟨rfl, hq, hk⟩; have HQ1b := hid hq; have HK1b := hid (HK1.out.trans hk); clear hq hk)
    | (go_at_call 96; refine (rdeeper_long HQ1b.out (by have := HQL.out; omega) HO16.out).mono ?_; rintro e w2 ⟨rfl, hk, hq⟩; have HQ2 := hid hq; have HK2 := hid (HK1b.out.trans hk); clear hq hk)
    | (go_at_call 34; refine (rcond17 HQ2.out HO16.out).mono ?_; rintro e w3 ⟨hk, z3, sv3, qs3, rfl, hz3, hq, ha⟩; have HK3 := hid (HK2.out.r.next (At.refl w sv) hk); have HQ3 := hid hq; have HA3 := hid ((At.refl w sv).trans ha HK2.out.size); have HZ3 := hid hz3; clear hk hq ha hz3)
    | (go_at_call 54; refine (rwants_any HQ3.out wShut).mono ?_; rintro e w4 ⟨hk, x4, v4, E4, j4, rfl, hv4, hq, hc⟩; obtain rfl := hv4; have HK4 := hid (HK3.out.next HA3.out hk.r); have HQ4 := hid hq; have HC4 := hid hc; have k2 := hq.cell; have z2 := hq.frozen; simp only [Int.natCast_add, Int.cast_ofNat_Int] at k2; clear hk hq hc))
  have HQ6 := hid (Ry.less HQ4.out)
  have HK6 := hid (HK4.out.next HA3.out (Kp.set (T := fun k => k = rb) (w := w4) (b := rb) (i := 4) rfl (.int .i64 (o : Int))).r)
  clear k2 z2 k0
  generalize w4.setCell ⟨rb, 4, none⟩ (.int .i64 (o : Int)) = W6 at *
  go_wp2_with fail
  go_ret
  refine ⟨HK6.out, z3, E4, j4, sv3, qs3, rfl, HZ3.out, HQ6.out, HA3.out, ?_⟩
  have e0 : lf 0 i (notB ts none i (qs.map (·.np))) = .bad i 2 := by unfold lf notB; rw [if_pos rfl, HN.out, if_neg (by decide), if_pos HW.out]; unfold inBr; rw [if_pos HW.out]; rfl
  rw [← HTt.out, e0]
  have h5 := HC4.out
  unfold lf at h5; rw [if_neg (by decide)] at h5
  rcases h5 with ⟨h5, hE5⟩ | ⟨h5, hE5⟩
  · cases h5; exact .inl ⟨rfl, hE5⟩
  · cases h5
set_option maxRecDepth 100000 in
set_option maxHeartbeats 400000 in
theorem rnot_open1 {p : PN} (ho : o < 16) (hp : PNy 98 B ts rb tv (o + 1) p) (hg : GoN ts p) (h : Ry B ts w rb tv sv 0 o i qs) (hn : isW ts i wNot = false) (hw : isW ts i wOpen = true) : Calls Tryz.prog 98 #[dp rb] w (Y2 B ts rb tv sv o w (lf 0 i (notB ts (some p) i (qs.map (·.np))))) := by
  have k0 := h.cell
  have HQL := hid h.ql
  have HN := hid hn
  have HW := hid hw
  have HP := hid (rcondB_any hp hg)
  have HS := hid (rsees_no h (x := wNot) hn)
  have hk0 : ((o : Int) + 1) - 1 = o := by omega
  have o0 : (0 : Int) ≤ o := by omega
  have o1 : (o : Int) ≤ 17 := by have := h.ol; omega
  have HO16 := hid ho
  have M1 : Hid True := trivial
  generalize hT : lf 0 i (notB ts (some p) i (qs.map (·.np))) = T at *
  have HTt := hid hT
  clear h hw hn hT ho hp hg
  go_enter Tryz.func98, Tryz.ntmps98
  go_upto_region 13 with (first
    | (go_at_call 56; have FIRST := M1; refine HS.out.mono ?_; rintro e w1 ⟨rfl, hq, hk⟩; have HQ1 := hid hq; have HK1 := hid hk; clear hq hk M1 FIRST)
    | (go_at_call 56; refine (rsees_yes HQ1.out (x := wOpen) HW.out).mono ?_; rintro e w1b ⟨rfl, hq, hk⟩; have HQ1b := hid hq; have HK1b := hid (HK1.out.trans hk); clear hq hk)
    | (go_at_call 96; refine (rdeeper_ok HQ1b.out (by have := HQL.out; omega) HO16.out).mono ?_; rintro e w2 ⟨rfl, hk, hq⟩; have HQ2 := hid hq; have HK2 := hid (HK1b.out.trans hk); clear hq hk)
    | (go_at_call 34; refine (HP.out _ _ _ _ _ (fun h17 => absurd HO16.out (by omega)) HQ2.out).mono ?_; rintro e w3 ⟨hk, z3, E3, j3, sv3, qs3, rfl, hz3, hq, ha, hc⟩; have HK3 := hid (HK2.out.r.next (At.refl w sv) hk); have HQ3 := hid hq; have HC3 := hid hc; have HA3 := hid ((At.refl w sv).trans ha HK2.out.size); have HZ3 := hid hz3; clear hk hq hc ha hz3)
    | (go_at_call 54; refine (rwants_any HQ3.out wShut).mono ?_; rintro e w4 ⟨hk, x4, v4, E4, j4, rfl, hv4, hq, hc⟩; obtain rfl := hv4; have HK4 := hid (HK3.out.next HA3.out hk.r); have HQ4 := hid hq; have HC4 := hid hc; have k2 := hq.cell; have z2 := hq.frozen; simp only [Int.natCast_add, Int.cast_ofNat_Int] at k2; clear hk hq hc))
  have HQ6 := hid (Ry.less HQ4.out)
  have HK6 := hid (HK4.out.next HA3.out (Kp.set (T := fun k => k = rb) (w := w4) (b := rb) (i := 4) rfl (.int .i64 (o : Int))).r)
  clear k2 z2 k0
  generalize w4.setCell ⟨rb, 4, none⟩ (.int .i64 (o : Int)) = W6 at *
  go_wp2_with fail
  go_ret
  refine ⟨HK6.out, z3, E4, j4, sv3, qs3, rfl, HZ3.out, HQ6.out, HA3.out, ?_⟩
  rw [← HTt.out]
  exact open_fin HN.out HW.out HC3.out HC4.out
theorem rnot_open {d : Option PN} (hd : DeepY 98 B ts rb tv o d) (h : Ry B ts w rb tv sv 0 o i qs) (hn : isW ts i wNot = false) (hw : isW ts i wOpen = true) : Calls Tryz.prog 98 #[dp rb] w (Y2 B ts rb tv sv o w (lf 0 i (notB ts d i (qs.map (·.np))))) := by
  cases d with
  | none => exact rnot_open0 hd h hn hw
  | some p => exact rnot_open1 hd.1 hd.2.1 hd.2.2 h hn hw
end
end Go.Proofs.YtomnjckbgmbgmaaGreatDoor
namespace Go.Proofs.YtomnjckbgmbgmaaGreatDoor
open Go.RowKit Go.Joins

def setL : Array Value → Nat → List Value → Array Value
  | xs, _, [] => xs
  | xs, o, v :: r => setL (xs.setIfInBounds o v) (o + 1) r
theorem setCells_blk {b : Nat} {t : TypeId} {fz : Nat × Nat} : ∀ (vs : List Value) (o : Nat) (w : World) (xs : Array Value), w.heap[b]? = some (.cells xs t fz) → (w.setCells b o vs).heap[b]? = some (.cells (setL xs o vs) t fz)
  | [], _, _, _, h => h
  | v :: r, o, w, xs, h => by rw [World.setCells]; exact setCells_blk r (o + 1) _ _ (block_set h o v)
theorem setCells_kp {b : Nat} : ∀ (vs : List Value) (o : Nat) (w : World), Kp (fun k => k = b) w (w.setCells b o vs)
  | [], _, w => Kp.refl _ _
  | v :: r, o, w => by rw [World.setCells]; exact (Kp.set (T := fun k => k = b) rfl v).trans (setCells_kp r (o + 1) _)
theorem load_node {ops : Array Oper} {rest : List Oper} {op : Oper} {a : Act} {w : World} {Q : Exit → Act → World → Prop} (hgd : op.guard = none) (x : Operand) (ho : op.op = .load 52 x) {nb : Nat} {q : Nd} (hx : a.eval x = dp nb) (hS : S6 nb q.cells.toArray w)
    (h : wpList Tryz.prog ops Q rest (a.put op.dst (.agg q.cells.toArray)) w) : wpList Tryz.prog ops Q (op :: rest) a w :=
  wpList_load_mid hgd 52 x ho nb 0 hx q.cells _ (s6_range hS) Tryz.underlying52 rfl size_node h
theorem s6_there {nb : Nat} {q : Nd} {w : World} (hS : S6 nb q.cells.toArray w) : w.there nb 5 11 := fun j hj => by
  refine ⟨?_, block_frozen hS _⟩
  rw [block_cell hS, Array.getElem?_eq_getElem (by show 5 + j < 19; omega)]
  rfl
theorem set_nv (q : Nd) (c : Int × Int × List UInt8) : setL q.cells.toArray 5 (VlV c).toList = ({ q with np := { q.np with vk := c.1, vn := c.2.1, vs := c.2.2 } } : Nd).cells.toArray := by
  kernel_rfl
theorem store_nv {ops : Array Oper} {rest : List Oper} {op : Oper} {a : Act} {w : World} {Q : Exit → Act → World → Prop} (hgd : op.guard = none) (x y : Operand) (ho : op.op = .store 47 x y) {nb : Nat} {q : Nd} {c : Int × Int × List UInt8} (hx : a.eval x = .pointer (some ⟨nb, 5, none⟩)) (hy : a.eval y = .agg (VlV c)) (hS : S6 nb q.cells.toArray w)
    (h : ∀ w', S6 nb ({ q with np := { q.np with vk := c.1, vn := c.2.1, vs := c.2.2 } } : Nd).cells.toArray w' → Kp (fun k => k = nb) w w' → wpList Tryz.prog ops Q rest (a.put op.dst undef) w') : wpList Tryz.prog ops Q (op :: rest) a w :=
  wpList_store_mid hgd 47 x y ho nb 5 (VlV c) hx hy (s6_there hS) size_val (one_val c) (h _ (by have := setCells_blk (VlV c).toList 5 w _ hS; rw [set_nv] at this; exact this) (setCells_kp _ _ _))
section
variable {B : Nat} {ts : List Tp} {w w' wr : World} {rb : Nat} {tv sv0 sv sv' : Value} {E E' : Int} {o o' i j j' : Nat} {qs qs' : List Nd} {nb : Nat} {q q' : Nd}
structure Bn (B : Nat) (ts : List Tp) (w : World) (rb : Nat) (tv sv0 sv : Value) (E : Int) (o j : Nat) (qs : List Nd) (nb : Nat) (q : Nd) (wr : World) : Prop where
  r : Ry B ts wr rb tv sv E o j qs
  b : S6 nb q.cells.toArray wr
  k : Kp (Tq rb sv0) w wr
  a : At w sv0 sv
  n : w.heap.size ≤ nb
  l : rb < w.heap.size
  s : ∀ g, sv.ownBlock = some g → g ≠ nb
theorem Bn.ne (h : Bn B ts w rb tv sv0 sv E o j qs nb q wr) : nb ≠ rb := by have := h.n; have := h.l; omega
theorem Bn.y1 (h : Bn B ts w rb tv sv0 sv E o j qs nb q wr) (hk : Kp (fun k => k = rb) wr w') (hr : Ry B ts w' rb tv sv E' o' j' qs) : Bn B ts w rb tv sv0 sv E' o' j' qs nb q w' :=
  ⟨hr, hk.blk h.b h.ne, h.k.next h.a hk.r, h.a, h.n, h.l, h.s⟩
theorem Bn.y2 (h : Bn B ts w rb tv sv0 sv E o j qs nb q wr) (hk : Kp (Tq rb sv) wr w') (ha : At wr sv sv') (hr : Ry B ts w' rb tv sv' E' o' j' qs') : Bn B ts w rb tv sv0 sv' E' o' j' qs' nb q w' :=
  ⟨hr, hk.blk h.b (fun e => e.elim (fun e => h.ne e) (fun e => h.s _ e rfl)), h.k.next h.a hk, h.a.trans ha h.k.size, h.n, h.l, fun g hg e => by
    rcases ha g hg with h1 | h1
    · exact h.s g h1 e
    · have := lt_of_block h.b; omega⟩
theorem Bn.tk (h : Bn B ts w rb tv sv0 sv E o j qs nb q wr) : TK wr (fun k => k = nb) := by
  rintro k rfl c t fz hc
  have hb : wr.heap[k]? = some (.cells q.cells.toArray 52 (0, 0)) := h.b
  rw [hb] at hc; cases hc; decide
theorem Bn.set (h : Bn B ts w rb tv sv0 sv E o j qs nb q wr) (hS : S6 nb q'.cells.toArray w') (hk : Kp (fun k => k = nb) wr w') : Bn B ts w rb tv sv0 sv E o j qs nb q' w' :=
  ⟨h.r.kp hk (fun k e e2 => e.elim (fun e => h.ne (e2.symm.trans e)) (fun e => h.s _ e e2)) h.tk (fun k e => by have := h.r.bB; have := h.n; have := h.l; omega), hS, h.k.trans' hk (fun i hi e => by have := h.n; omega), h.a, h.n, h.l, h.s⟩
theorem Bn.set1 (h : Bn B ts w rb tv sv0 sv E o j qs nb q wr) (c : Nat) (v : Value) (hq : q.cells.toArray.setIfInBounds c v = q'.cells.toArray) : Bn B ts w rb tv sv0 sv E o j qs nb q' (wr.setCell ⟨nb, c, none⟩ v) :=
  h.set (by have := block_set h.b c v; rw [hq] at this; exact this) (Kp.set (T := fun k => k = nb) rfl v)
theorem Bn.on (h : Bn B ts w rb tv sv0 sv E o j qs nb q wr) (hb : Below wr.heap.size wr w') : Bn B ts w rb tv sv0 sv E o j qs nb q w' :=
  h.y1 (Kp.of hb) (h.r.on hb)
theorem Bn.start (h : Ry B ts wr rb tv sv E o j qs) (hk : Kp (Tq rb sv0) w wr) (ha : At w sv0 sv) (hl : rb < w.heap.size) (q : Nd) : Bn B ts w rb tv sv0 sv E o j qs wr.heap.size q (wr.alloc (.cells q.cells.toArray 52)) :=
  ⟨h.on ((Below.refl _ _).alloc (Nat.le_refl _) _), alloc_block _ _, hk.trans (Kp.alloc _ _ _), ha, hk.size, hl, fun g hg e => by have h1 : g < wr.heap.size := (h.own.at hg).2; omega⟩
theorem Bn.start2 (h : Ry B ts wr rb tv sv E o j qs) (hk : Kp (Tq rb sv0) w wr) (ha : At w sv0 sv) (hl : rb < w.heap.size) (hS : S6 wr.heap.size q.cells.toArray w') (hk' : Kp (fun k => k = wr.heap.size) (wr.alloc (.cells zNd 52)) w') : Bn B ts w rb tv sv0 sv E o j qs wr.heap.size q w' :=
  (Bn.start h hk ha hl (bare n0)).set hS hk'
end
end Go.Proofs.YtomnjckbgmbgmaaGreatDoor
namespace Go.Proofs.YtomnjckbgmbgmaaGreatDoor
open Go.RowKit Go.Joins

section
variable {ts : List Tp} {d : Option PN} {i j j3 j7 j9 : Nat} {E E3 E7 E9 z9 : Int} {t3 t7 : Tp} {ns ns9 : List Np}
theorem take_ok {k : Int} {t : Tp} {E' : Int} (h : Cm (lf E i (takeS ts k i)) t j E') (hE : E' = 0) : E = 0 ∧ j = i + 1 ∧ takeS ts k i = .ok t j := by
  rcases h with ⟨h, h2⟩ | ⟨h, h2⟩
  · exact absurd hE h2
  · unfold lf at h
    split at h
    · rename_i hE0
      refine ⟨hE0, ?_, h⟩
      unfold takeS at h
      split at h
      · cases h; rfl
      · cases h
    · cases h
theorem not_test (hn : isW ts i wNot = false) (hw : isW ts i wOpen = false) : lf 0 i (notB ts d i ns) = (testS ts i).and fun n j => .ok (ns.length, ns ++ [n]) j := by
  unfold lf notB; rw [if_pos rfl, hn, hw, if_neg (by decide), if_neg (by decide)]
theorem test_nm (h : takeS ts 1 i = .ok t3 j3) : testS ts i = if isW ts j3 wHas then (textV ts (j3 + 1)).and fun v j => .ok { n0 with kind := 15, s := t3.s, vk := v.1, vn := v.2.1, vs := v.2.2 } j
  else (oneOfS ts howW j3).and fun k j => (valueS ts j).and fun v j => .ok { n0 with kind := 14, s := t3.s, n := 1 + (k : Int), vk := v.1, vn := v.2.1, vs := v.2.2 } j := by
  unfold testS nameS; rw [h]; rfl
theorem test_has (hn : isW ts i wNot = false) (hw : isW ts i wOpen = false) (h3 : Cm (lf 0 i (takeS ts 1 i)) t3 j3 E3) (hh : isE E3 ts j3 wHas = true) (h7 : Cm (lf E3 (j3 + 1) (takeS ts 3 (j3 + 1))) t7 j7 E7)
    (h9 : Cm2 (lf E7 j7 (.ok (ns.length, ns ++ [{ n0 with kind := 15, s := t3.s, vk := 2, vn := 0, vs := t7.s }]) j7)) z9 ns9 j9 E9) : Cm2 (lf 0 i (notB ts d i ns)) z9 ns9 j9 E9 := by
  have e3 := isE_E hh
  subst e3
  obtain ⟨-, -, h3⟩ := take_ok h3 rfl
  rw [not_test hn hw, test_nm h3, if_pos (isE_W hh)]
  rcases h7 with ⟨h7, hE⟩ | ⟨h7, rfl⟩
  · unfold lf at h7; rw [if_pos rfl] at h7
    unfold lf at h9; rw [if_neg hE] at h9
    unfold textV; rw [h7]; exact h9
  · unfold lf at h7; rw [if_pos rfl] at h7
    unfold lf at h9; rw [if_pos rfl] at h9
    unfold textV; rw [h7]; exact h9
theorem test_bad (hn : isW ts i wNot = false) (hw : isW ts i wOpen = false) (h3 : Cm (lf 0 i (takeS ts 1 i)) t3 j3 E3) (hE : ¬ E3 = 0) : lf 0 i (notB ts d i ns) = .bad j3 E3 := by
  rcases h3 with ⟨h3, -⟩ | ⟨-, h3⟩
  · unfold lf at h3; rw [if_pos rfl] at h3
    rw [not_test hn hw]; unfold testS nameS; rw [h3]; rfl
  · exact absurd h3 hE
theorem idx_nil {ts : List Tp} {j : Nat} : ∀ (ws : List (List UInt8)) (k : Nat), (∀ m, m < ws.length → isW ts j (ws.getD m []) = false) → idxOf ts j ws k = none
  | [], _, _ => rfl
  | x :: r, k, h => by
    unfold idxOf
    have h0 := h 0 (by simp)
    simp only [List.getD_cons_zero] at h0
    rw [h0, if_neg (by decide)]
    exact idx_nil r (k + 1) (fun m hm => by have := h (m + 1) (by simpa using hm); simpa using this)
theorem idx_first {ts : List Tp} {j : Nat} : ∀ (ws : List (List UInt8)) (k n : Nat), n < ws.length → (∀ m, m < n → isW ts j (ws.getD m []) = false) → isW ts j (ws.getD n []) = true → idxOf ts j ws k = some (k + n)
  | [], _, n, h, _, _ => by simp at h
  | x :: r, k, 0, _, _, h2 => by
    unfold idxOf
    simp only [List.getD_cons_zero] at h2
    rw [h2, if_pos rfl]; rfl
  | x :: r, k, n + 1, h, h1, h2 => by
    unfold idxOf
    have h0 := h1 0 (by omega)
    simp only [List.getD_cons_zero] at h0
    rw [h0, if_neg (by decide), idx_first r (k + 1) n (by simpa using h) (fun m hm => by have := h1 (m + 1) (by omega); simpa using this) (by simpa using h2)]
    congr 1; omega
/- The loop over the signs: N is what was found. -/
def LpS (ts : List Tp) (E3 : Int) (j3 k N j : Nat) : Prop :=
  (N = 0 ∧ j = j3 ∧ ∀ m, m < k - 1 → isE E3 ts j3 (howW.getD m []) = false) ∨ (0 < N ∧ N ≤ 6 ∧ E3 = 0 ∧ j = j3 + 1 ∧ oneOfS ts howW j3 = .ok (N - 1) (j3 + 1))
theorem lps_no {k j : Nat} (h : LpS ts E3 j3 k 0 j) (hw : isE E3 ts j3 (howW.getD (k - 1) []) = false) : LpS ts E3 j3 (k + 1) 0 j := by
  rcases h with ⟨h1, h2, h3⟩ | ⟨h1, -⟩
  · refine .inl ⟨rfl, h2, fun m hm => ?_⟩
    rcases Nat.lt_or_ge m (k - 1) with h | h
    · exact h3 m h
    · rw [show m = k - 1 by omega]; exact hw
  · omega
theorem lps_yes {k j : Nat} (h : LpS ts E3 j3 k 0 j) (hk : 1 ≤ k) (hk7 : k < 7) (hw : isE E3 ts j3 (howW.getD (k - 1) []) = true) : LpS ts E3 j3 (k + 1) k (j + 1) := by
  rcases h with ⟨h1, rfl, h3⟩ | ⟨h1, -⟩
  · have hE := isE_E hw
    subst hE
    refine .inr ⟨by omega, by omega, rfl, rfl, ?_⟩
    unfold oneOfS
    rw [idx_first howW 0 (k - 1) (by show k - 1 < 6; omega) (fun m hm => isE_false (h3 m hm) rfl) (isE_W hw), Nat.zero_add]
  · omega
theorem lps_at {k j : Nat} (h : LpS ts E3 j3 k 0 j) : j = j3 := by
  rcases h with ⟨-, h, -⟩ | ⟨h, -⟩
  · exact h
  · omega
theorem test_none {j : Nat} (hn : isW ts i wNot = false) (hw : isW ts i wOpen = false) (h3 : Cm (lf 0 i (takeS ts 1 i)) t3 j3 E3) (hh : isE E3 ts j3 wHas = false) (hl : LpS ts E3 j3 7 0 j) : Cm2 (lf 0 i (notB ts d i ns)) 0 ns j (erS E3 120) := by
  rcases hl with ⟨-, rfl, hl⟩ | ⟨h, -⟩
  · by_cases hE : E3 = 0
    · subst hE
      obtain ⟨-, -, h3⟩ := take_ok h3 rfl
      rw [not_test hn hw, test_nm h3, isE_false hh rfl, if_neg (by decide)]
      unfold oneOfS
      rw [idx_nil howW 0 (fun m hm => isE_false (hl m hm) rfl)]
      exact .inl ⟨rfl, by decide⟩
    · rw [test_bad hn hw h3 hE]
      have e : erS E3 120 = E3 := if_neg hE
      rw [e]; exact .inl ⟨rfl, hE⟩
  · omega
theorem test_cmp {N k j jv : Nat} {Ev : Int} {x : Int × Int × List UInt8} (hn : isW ts i wNot = false) (hw : isW ts i wOpen = false) (h3 : Cm (lf 0 i (takeS ts 1 i)) t3 j3 E3) (hh : isE E3 ts j3 wHas = false) (hl : LpS ts E3 j3 k N j) (hN : 0 < N) (hv : Cm (lf E3 j (valueS ts j)) x jv Ev)
    (h9 : Cm2 (lf Ev jv (.ok (ns.length, ns ++ [{ n0 with kind := 14, s := t3.s, n := (N : Int), vk := x.1, vn := x.2.1, vs := x.2.2 }]) jv)) z9 ns9 j9 E9) : Cm2 (lf 0 i (notB ts d i ns)) z9 ns9 j9 E9 := by
  rcases hl with ⟨h, -⟩ | ⟨-, hN6, rfl, rfl, ho⟩
  · omega
  · obtain ⟨-, -, h3⟩ := take_ok h3 rfl
    rw [not_test hn hw, test_nm h3, isE_false hh rfl, if_neg (by decide), ho]
    have e : (1 : Int) + ((N - 1 : Nat) : Int) = (N : Int) := by omega
    simp only [Rs.and, e]
    rcases hv with ⟨hv, hE⟩ | ⟨hv, rfl⟩
    · unfold lf at hv; rw [if_pos rfl] at hv
      unfold lf at h9; rw [if_neg hE] at h9
      rw [hv]; exact h9
    · unfold lf at hv; rw [if_pos rfl] at hv
      unfold lf at h9; rw [if_pos rfl] at h9
      rw [hv]; exact h9
theorem value_len {j jv : Nat} {Ev : Int} {x : Int × Int × List UInt8} (hv : Cm (lf E j (valueS ts j)) x jv Ev) (hE : Ev = 0) : j + 1 ≤ jv := by
  rcases hv with ⟨-, h⟩ | ⟨h, -⟩
  · exact absurd hE h
  · unfold lf at h
    split at h
    · exact (value_go ts _ _ _ h).1
    · cases h
theorem lps_ge {k N j : Nat} (h : LpS ts E3 j3 k N j) : j3 ≤ j := by
  rcases h with ⟨-, rfl, -⟩ | ⟨-, -, -, rfl, -⟩ <;> omega
end
abbrev hwC : Array Value := #[.string ⟨#[]⟩, .string ⟨#[61]⟩, .string ⟨#[33, 61]⟩, .string ⟨#[60]⟩, .string ⟨#[60, 61]⟩, .string ⟨#[62]⟩, .string ⟨#[62, 61]⟩]
theorem hwC_at (k : Nat) (h1 : 1 ≤ k) (h : k < 7) : hwC[k]? = some (.string (St (howW.getD (k - 1) []))) := by
  match k, h1, h with
  | 1, _, _ => rfl
  | 2, _, _ => rfl
  | 3, _, _ => rfl
  | 4, _, _ => rfl
  | 5, _, _ => rfl
  | 6, _, _ => rfl
end Go.Proofs.YtomnjckbgmbgmaaGreatDoor
namespace Go.Proofs.YtomnjckbgmbgmaaGreatDoor
open Go.RowKit Go.Joins

section
variable {B : Nat} {ts : List Tp} {w w' : World} {rb : Nat} {tv sv : Value} {E : Int} {o i : Nat} {qs : List Nd}
set_option maxRecDepth 100000 in
set_option maxHeartbeats 2000000 in
theorem rnot_test {d : Option PN} (h : Ry B ts w rb tv sv 0 o i qs) (hn : isW ts i wNot = false) (hw : isW ts i wOpen = false) : Calls Tryz.prog 98 #[dp rb] w (Y2 B ts rb tv sv o w (lf 0 i (notB ts d i (qs.map (·.np))))) := by
  have k0 := h.cell
  have HQL := hid h.ql
  have HLt := hid h.lt
  have HN := hid hn
  have HW := hid hw
  have HS := hid (rsees_no h (x := wNot) hn)
  have hf1 := fld1
  have M1 : Hid True := trivial
  generalize hT : lf 0 i (notB ts d i (qs.map (·.np))) = T at *
  have HTt := hid hT
  clear h hw hn hT
  go_enter Tryz.func98, Tryz.ntmps98
  go_upto_region 15 with (first
    | (refine store_nd (q := bare { n0 with kind := 14, s := t3.s }) rfl _ _ rfl rfl rfl (bare_all _) (alloc_block w3 _) rfl ?_; intro w4 h4 k4; have HB4 := hid (Bn.start2 HQ3.out HK3.out.r (At.refl w sv) HLt.out h4 k4); clear h4 k4)
    | (go_at_call 56; have FIRST := M1; refine HS.out.mono ?_; rintro e w1 ⟨rfl, hq, hk⟩; have HQ1 := hid hq; have HK1 := hid hk; clear hq hk M1 FIRST)
    | (go_at_call 56; refine (rsees_no HQ1.out (x := wOpen) HW.out).mono ?_; rintro e w2 ⟨rfl, hq, hk⟩; have HQ2 := hid hq; have HK2 := hid (HK1.out.trans hk); clear hq hk)
    | (go_at_call 55; refine (rkind_any HQ2.out 1).mono ?_; rintro e w3 ⟨hk, t3, v3, E3, j3, rfl, hv3, hq, hc⟩; obtain rfl := hv3; have HK3 := hid (HK2.out.trans hk); have HQ3 := hid hq; have HC3 := hid hc; clear hk hq hc))
  clear HS HQ1 HK1 HQ2 HK2 HQ3 HK3 k0
  generalize w3.heap.size = nb at *
  cases hh : isE E3 ts j3 wHas with
  | true =>
    have HH := hid hh
    clear hh
    go_wp2_with (first
      | (refine store_nv (c := (2, 0, t7.s)) rfl _ _ rfl rfl rfl HB7.out.b ?_; intro w8 h8 k8; have HB8 := hid (HB7.out.set (q' := bare { n0 with kind := 15, s := t3.s, vk := 2, vn := 0, vs := t7.s }) h8 k8); clear h8 k8)
      | (refine load_node (q := bare { n0 with kind := 15, s := t3.s, vk := 2, vn := 0, vs := t7.s }) rfl _ rfl rfl HB8.out.b ?_)
      | (go_at_call 56; refine (rsees_yes HB4.out.r (x := wHas) HH.out).mono ?_; rintro e w5 ⟨rfl, hq, hk⟩; have HB5 := hid (HB4.out.y1 hk hq); have HB6 := hid (HB5.out.set1 (q' := bare { n0 with kind := 15, s := t3.s }) 0 (.int .i64 15) (by kernel_rfl)); have c5 := block_cell HB5.out.b 0; have z5 := block_frozen HB5.out.b 0; clear hq hk)
      | (go_at_call 55; clear c5 z5; refine (rkind_any HB6.out.r 3).mono ?_; rintro e w7 ⟨hk, t7, v7, E7, j7, rfl, hv7, hq, hc⟩; obtain rfl := hv7; have HB7 := hid (HB6.out.y1 hk hq); have HC7 := hid hc; clear hk hq hc)
      | (go_at_call 57; refine (rlay_any HB8.out.r (bare_in _ _ rfl rfl rfl) (fun e => by have h1 := take_ok HC7.out e; have h2 := take_ok HC3.out h1.1; have := HQL.out; omega)).mono ?_; rintro e w9 ⟨hk, z9, E9, j9, sv9, qs9, rfl, hz9, hq, ha, hc⟩; have HB9 := hid (HB8.out.y2 hk ha hq); have HC9 := hid hc; have HZ9 := hid hz9; clear hk hq hc ha hz9))
    go_ret
    refine ⟨HB9.out.k, z9, E9, j9, sv9, qs9, rfl, HZ9.out, HB9.out.r, HB9.out.a, ?_⟩
    rw [← HTt.out]
    exact test_has HN.out HW.out HC3.out HH.out HC7.out (by have := HC9.out; simpa using this)
  | false =>
    have HH := hid hh
    clear hh
    go_upto_region 20 with (go_at_call 56; refine (rsees_no HB4.out.r (x := wHas) HH.out).mono ?_; rintro e w5 ⟨rfl, hq, hk⟩; have HB5 := hid ((HB4.out.y1 hk hq).on ((Below.refl _ _).alloc (Nat.le_refl _) (.cells hwC 9))); have HG := hid (alloc_block w5 (.cells hwC 9)); have HNr : Hid (w5.heap.size ≠ rb) := (fun e => by have := hq.lt; omega); have HNn : Hid (w5.heap.size ≠ nb) := (fun e => by have := lt_of_block (HB4.out.y1 hk hq).b; omega); clear hq hk)
    generalize w5.alloc (.cells hwC 9) = W5 at *
    generalize w5.heap.size = sg at *
    clear HB4
    go_upto_region 21 with fail
    go_loopw [7] (fun u wr => ∃ (k N j : Nat), u = .int .i64 k ∧ (1 : Int) ≤ k ∧ (k : Int) ≤ 7 ∧ Hid (LpS ts E3 j3 k N j) ∧ Hid (Bn B ts w rb tv sv sv E3 o j qs nb (bare { n0 with kind := 14, s := t3.s, n := (N : Int) }) wr) ∧ Hid (wr.heap[sg]? = some (.cells hwC 9))) (fun u _ => 7 - (intOf u).toNat)
    case atStart => exact ⟨1, 0, j3, rfl, by omega, by omega, .inl ⟨rfl, rfl, fun m hm => by omega⟩, HB5.out, HG.out⟩
    case round =>
      obtain ⟨k, N, j, rfl, hk1, hk7, HL, HBr, HGr⟩ := hrel
      clear HB5 HG
      by_cases hN : N = 0
      · subst hN
        have cN : wr.cell? ⟨nb, 2, none⟩ = some (.int .i64 0) := block_cell HBr.out.b 2
        by_cases h7 : k < 7
        · have kI : (k : Int) < 7 := by omega
          have k0 : (0 : Int) ≤ k := by omega
          have cS := (block_cell HGr.out k).trans (hwC_at k (by omega) h7)
          have H7 := hid h7
          have HJ := hid (lps_at HL.out)
          cases hs : isE E3 ts j3 (howW.getD (k - 1) []) with
          | true =>
            have HSs := hid hs
            have HLy := hid (lps_yes HL.out (by omega) h7 hs)
            clear hs h7
            go_wp2_with (go_at_call 56; refine (rsees_yes HBr.out.r (x := howW.getD (k - 1) []) (by rw [HJ.out]; exact HSs.out)).mono ?_; rintro e w6 ⟨rfl, hq, hk⟩; have HB6 := hid (HBr.out.y1 hk hq); have HG6 := hid (hk.blk HGr.out HNr.out); have c6 := block_cell HB6.out.b 2; have z6 := block_frozen HB6.out.b 2; clear hq hk)
            go_roundw
            case rel => exact ⟨k + 1, k, j + 1, by simp, by omega, by omega, HLy.out, HB6.out.set1 (q' := bare { n0 with kind := 14, s := t3.s, n := (k : Int) }) 2 (.int .i64 k) (by kernel_rfl), (Kp.set (T := fun x => x = nb) rfl _).blk HG6.out HNn.out⟩
            case measure => simp [intOf]; have := H7.out; omega
          | false =>
            have HSs := hid hs
            have HLn := hid (lps_no HL.out hs)
            clear hs h7
            go_wp2_with (go_at_call 56; refine (rsees_no HBr.out.r (x := howW.getD (k - 1) []) (by rw [HJ.out]; exact HSs.out)).mono ?_; rintro e w6 ⟨rfl, hq, hk⟩; have HB6 := hid (HBr.out.y1 hk hq); have HG6 := hid (hk.blk HGr.out HNr.out); clear hq hk)
            go_roundw
            case rel => exact ⟨k + 1, 0, j, by simp, by omega, by omega, HLn.out, HB6.out, HG6.out⟩
            case measure => simp [intOf]; have := H7.out; omega
        · obtain rfl : k = 7 := by omega
          clear h7 hk1 hk7
          go_wp2_with (go_at_call 59; refine (rfail_any HBr.out.r).mono ?_; rintro e w6 ⟨rfl, hq, hk⟩; have HB6 := hid (HBr.out.y1 hk hq); clear hq hk)
          go_ret
          refine ⟨HB6.out.k, 0, _, _, sv, qs, rfl, by omega, HB6.out.r, HB6.out.a, ?_⟩
          rw [← HTt.out]
          exact test_none HN.out HW.out HC3.out HH.out HL.out
      · have cN : wr.cell? ⟨nb, 2, none⟩ = some (.int .i64 (N : Int)) := block_cell HBr.out.b 2
        have N0 : ((N : Int) == 0) = false := by simp; omega
        have HNp : Hid (0 < N) := Nat.pos_of_ne_zero hN
        have dk : decide ((k : Int) < 7) = true ∨ decide ((k : Int) < 7) = false := by cases decide ((k : Int) < 7) <;> simp
        clear hN
        rcases dk with dk | dk
        all_goals
          (go_wp2_with (first
            | (refine store_nv (c := x7) rfl _ _ rfl rfl rfl HB7.out.b ?_; intro w8 h8 k8; have HB8 := hid (HB7.out.set (q' := bare { n0 with kind := 14, s := t3.s, n := (N : Int), vk := x7.1, vn := x7.2.1, vs := x7.2.2 }) h8 k8); clear h8 k8)
            | (refine load_node (q := bare { n0 with kind := 14, s := t3.s, n := (N : Int), vk := x7.1, vn := x7.2.1, vs := x7.2.2 }) rfl _ rfl rfl HB8.out.b ?_)
            | (go_at_call 123; refine (rvalue_any HBr.out.r).mono ?_; rintro e w7 ⟨hk, x7, v7, E7, j7, rfl, hv7, hq, hc⟩; obtain rfl := hv7; have HB7 := hid (HBr.out.y1 hk hq); have HC7 := hid hc; clear hk hq hc)
            | (go_at_call 57; refine (rlay_any HB8.out.r (bare_in _ _ rfl rfl rfl) (fun e => by have h1 := value_len HC7.out e; have h2 := lps_ge HL.out; have := HQL.out; have := HBr.out.r.ql; omega)).mono ?_; rintro e w9 ⟨hk, z9, E9, j9, sv9, qs9, rfl, hz9, hq, ha, hc⟩; have HB9 := hid (HB8.out.y2 hk ha hq); have HC9 := hid hc; have HZ9 := hid hz9; clear hk hq hc ha hz9))
           go_ret
           refine ⟨HB9.out.k, z9, E9, j9, sv9, qs9, rfl, HZ9.out, HB9.out.r, HB9.out.a, ?_⟩
           rw [← HTt.out]
           exact test_cmp HN.out HW.out HC3.out HH.out HL.out HNp.out HC7.out (by have := HC9.out; simpa using this))
/- The smallest conditions, and all conditions, at any depth. -/
theorem rnot_any {d : Option PN} (hd : DeepY 98 B ts rb tv o d) (h : Ry B ts w rb tv sv E o i qs) : Calls Tryz.prog 98 #[dp rb] w (Y2 B ts rb tv sv o w (lf E i (notB ts d i (qs.map (·.np))))) := by
  by_cases hE : E = 0
  · subst hE
    cases hn : isW ts i wNot with
    | true => exact rnot_not hd h hn
    | false =>
      cases hw : isW ts i wOpen with
      | true => exact rnot_open hd h hn hw
      | false => exact rnot_test h hn hw
  · refine (rnot_err h hE).mono ?_
    rintro e w' ⟨rfl, rfl⟩
    exact ⟨Kp.refl _ _, 0, E, i, sv, qs, rfl, by omega, h, At.refl _ _, .inl ⟨if_neg hE, hE⟩⟩
theorem rnotS : ∀ n : Nat, n ≤ 16 → PNy 98 B ts rb tv (16 - n) (notS ts n)
  | 0, _ => fun _ _ _ _ _ _ h => rnot_any (d := none) (show 16 - 0 = 16 from rfl) h
  | n + 1, hn => fun _ _ _ _ _ _ h => rnot_any (d := some (notS ts n)) ⟨by omega, by rw [show 16 - (n + 1) + 1 = 16 - n by omega]; exact rnotS n (by omega), not_go ts n⟩ h
theorem rcondS (n : Nat) (hn : n ≤ 16) : PNy 34 B ts rb tv (16 - n) (condS ts n) := rcondB_any (rnotS n hn) (not_go ts n)
end
end Go.Proofs.YtomnjckbgmbgmaaGreatDoor
namespace Go.Proofs.YtomnjckbgmbgmaaGreatDoor
open Go.RowKit Go.Joins

abbrev agC : Array Value := #[.string ⟨#[]⟩, .string ⟨#[99, 111, 117, 110, 116]⟩, .string ⟨#[115, 117, 109]⟩, .string ⟨#[109, 105, 110]⟩, .string ⟨#[109, 97, 120]⟩, .string ⟨#[109, 101, 97, 110]⟩, .string ⟨#[109, 101, 114, 103, 101]⟩]
theorem agC_at (k : Nat) (h1 : 1 ≤ k) (h : k < 7) : agC[k]? = some (.string (St (aggW.getD (k - 1) []))) := by
  match k, h1, h with
  | 1, _, _ => rfl
  | 2, _, _ => rfl
  | 3, _, _ => rfl
  | 4, _, _ => rfl
  | 5, _, _ => rfl
  | 6, _, _ => rfl
section
variable {B : Nat} {ts : List Tp} {w w' wr : World} {rb : Nat} {tv sv : Value} {E E' Ej : Int} {o o' i j j' : Nat} {qs : List Nd} {sg : Nat} {u : Value} {acc : List (Int × List UInt8)}
structure Ag (B : Nat) (ts : List Tp) (w : World) (rb : Nat) (tv sv : Value) (E : Int) (o j : Nat) (qs : List Nd) (sg : Nat) (u : Value) (acc : List (Int × List UInt8)) (wr : World) : Prop where
  r : Ry B ts wr rb tv sv E o j qs
  ow : Own ag2 2 80 w.heap.size wr u acc
  k : Kp (fun k => k = rb) w wr
  b : wr.heap[sg]? = some (.cells agC 9)
  n : w.heap.size ≤ sg
  l : rb < w.heap.size
theorem Ag.ne (h : Ag B ts w rb tv sv E o j qs sg u acc wr) : sg ≠ rb := by have := h.n; have := h.l; omega
theorem Ag.y1 (h : Ag B ts w rb tv sv E o j qs sg u acc wr) (hk : Kp (fun k => k = rb) wr w') (hr : Ry B ts w' rb tv sv E' o' j' qs) : Ag B ts w rb tv sv E' o' j' qs sg u acc w' :=
  ⟨hr, h.ow.rdy h.r hk (by decide), h.k.trans hk, hk.blk h.b h.ne, h.n, h.l⟩
theorem Ag.on (h : Ag B ts w rb tv sv E o j qs sg u acc wr) (hb : Below wr.heap.size wr w') : Ag B ts w rb tv sv E o j qs sg u acc w' := h.y1 (Kp.of hb) (h.r.on hb)
theorem Ag.new {T : Nat → Prop} (h : Ag B ts w rb tv sv E o j qs sg u acc wr) (hk : Kp T wr w') (hT : ∀ k, T k → w.heap.size ≤ k) (hs : ¬ T sg) {v : Value} {acc' : List (Int × List UInt8)} (ho : Own ag2 2 80 w.heap.size w' v acc') (hr : Ry B ts w' rb tv sv E o j qs) : Ag B ts w rb tv sv E o j qs sg v acc' w' :=
  ⟨hr, ho, h.k.trans' hk (fun i hi e => by have := hT i e; omega), hk.blk h.b hs, h.n, h.l⟩
theorem Ag.app {w7 : World} {E0 : Int} {o0 i0 : Nat} {v : Value} {acc' : List (Int × List UInt8)} (h0 : Ry B ts w rb tv sv E0 o0 i0 qs) (h : Ag B ts w rb tv sv E o j qs sg u acc wr) (hb : Below wr.heap.size wr w') (hg : w'.grownBy w7 u.ownBlock) (ho : Own ag2 2 80 w.heap.size w7 v acc') : Ag B ts w rb tv sv E o j qs sg v acc' w7 := by
  have k7 : Kp (fun k => w.heap.size ≤ k) wr w7 := (Kp.of hb).trans (Kp.grown hg (fun k e => (h.ow.at e).1))
  obtain ⟨a, b⟩ := Ry.backN h0 h.r h.k k7
  exact ⟨a, ho, b, (Kp.grown (T := fun k => u.ownBlock = some k) hg (fun k e => e)).blk (block_on h.b hb) (fun e => by obtain ⟨c, fz, hc⟩ := h.ow.kind e; rw [h.b] at hc; cases hc), h.n, h.l⟩
theorem Ag.box {E0 : Int} {o0 i0 ab c : Nat} {v : Value} (h0 : Ry B ts w rb tv sv E0 o0 i0 qs) (h : Ag B ts w rb tv sv E o j qs sg u acc wr) (hab : w.heap.size ≤ ab) (hu : ∀ g, u.ownBlock = some g → g ≠ ab) (hs : sg ≠ ab) : Ag B ts w rb tv sv E o j qs sg u acc (wr.setCell ⟨ab, c, none⟩ v) := by
  obtain ⟨a, b⟩ := Ry.backN h0 h.r h.k (Kp.set (T := fun k => w.heap.size ≤ k) (b := ab) (i := c) hab v)
  have ks : Kp (fun k => k = ab) wr (wr.setCell ⟨ab, c, none⟩ v) := Kp.set (T := fun k => k = ab) rfl v
  exact ⟨a, h.ow.kp ks hu, b, ks.blk h.b hs, h.n, h.l⟩
theorem Ag.own_lt (h : Ag B ts w rb tv sv E o j qs sg u acc wr) : ∀ g, u.ownBlock = some g → g ≠ wr.heap.size := fun g hg e => by have h1 : g < wr.heap.size := (h.ow.at hg).2; omega
/- Mathematics: one round. -/
def InvA (ts : List Tp) (E : Int) (i f : Nat) (acc : List (Int × List UInt8)) (Ej : Int) (j : Nat) : Prop :=
  ∀ y k E', Cm (lf Ej j ((aggS ts j).and fun x j' => moreS ts (aggS ts) f (acc ++ [x]) j')) y k E' → Cm (lf E i (listS ts (aggS ts) i)) y k E'
theorem inva_start : InvA ts E i ts.length [] E i := fun _ _ _ h => h
/- None of the words stands there. -/
theorem inva_none {f : Nat} (h : InvA ts E i f acc Ej j) (hn : ∀ m, m < 6 → isE Ej ts j (aggW.getD m []) = false) (y : List (Int × List UInt8)) : Cm (lf E i (listS ts (aggS ts) i)) y j (erS Ej 120) := by
  apply h
  by_cases hE : Ej = 0
  · subst hE
    have e : aggS ts j = .bad j 120 := by
      unfold aggS oneOfS
      rw [idx_nil aggW 0 (fun m hm => isE_false (hn m hm) rfl)]; rfl
    rw [e]; exact erS_lf
  · have : erS Ej 120 = Ej := if_neg hE
    rw [this]; exact lf_bad hE
/- A word stands there. -/
theorem agg_at {k : Nat} (hk : 1 ≤ k) (hk7 : k < 7) (hn : ∀ m, m < k - 1 → isE 0 ts j (aggW.getD m []) = false) (hy : isW ts j (aggW.getD (k - 1) []) = true) : aggS ts j = if k = 1 then .ok (1, []) (j + 1) else (nameS ts (j + 1)).and fun x j => .ok ((k : Int), x) j := by
  unfold aggS oneOfS
  rw [idx_first aggW 0 (k - 1) (by show k - 1 < 6; omega) (fun m hm => isE_false (hn m hm) rfl) hy, Nat.zero_add]
  simp only [Rs.and]
  by_cases h : k = 1
  · subst h; rfl
  · rw [if_neg h, if_neg (by omega)]
    have e : (1 : Int) + ((k - 1 : Nat) : Int) = (k : Int) := by omega
    rw [e]
/- Behind a whole aggregate. -/
theorem inva_next {f j2 : Nat} {x : Int × List UInt8} {E2 : Int} (h : InvA ts E i f acc 0 j) (ha : Cm (aggS ts j) x j2 E2) (hw : isE E2 ts j2 wComma = true) (hf : ts.length ≤ f + j) (hj : j < j2) : ∃ f', f = f' + 1 ∧ InvA ts E i f' (acc ++ [x]) 0 (j2 + 1) := by
  have hE := isE_E hw
  subst hE
  have hl := isE_lt hw
  obtain ⟨f', rfl⟩ : ∃ f', f = f' + 1 := ⟨f - 1, by omega⟩
  refine ⟨f', rfl, fun y k E' hy => h y k E' ?_⟩
  have e : aggS ts j = .ok x j2 := by rcases ha with ⟨-, h⟩ | ⟨h, -⟩; exact absurd rfl h; exact h
  unfold lf at hy ⊢
  rw [if_pos rfl] at hy ⊢
  rw [e]
  show Cm (moreS ts (aggS ts) (f' + 1) (acc ++ [x]) j2) y k E'
  rw [moreS, if_pos (isE_W hw)]; exact hy
theorem inva_end {f j2 : Nat} {x : Int × List UInt8} {E2 : Int} (h : InvA ts E i f acc 0 j) (ha : Cm (aggS ts j) x j2 E2) (hw : isE E2 ts j2 wComma = false) : Cm (lf E i (listS ts (aggS ts) i)) (acc ++ [x]) j2 E2 := by
  apply h
  unfold lf; rw [if_pos rfl]
  refine ha.and ?_
  by_cases hE : E2 = 0
  · subst hE
    refine .inr ⟨?_, rfl⟩
    unfold lf; rw [if_pos rfl]
    cases f with
    | zero => rfl
    | succ f => rw [moreS, if_neg (by rw [isE_false hw rfl]; decide)]
  · exact lf_bad hE
end
end Go.Proofs.YtomnjckbgmbgmaaGreatDoor
namespace Go.Proofs.YtomnjckbgmbgmaaGreatDoor
open Go.RowKit Go.Joins

section
variable {B : Nat} {ts : List Tp} {w w' : World} {rb : Nat} {tv sv : Value} {E : Int} {o i : Nat} {qs : List Nd}
theorem ris_is (h : Ry B ts w rb tv sv E o i qs) {x : List UInt8} {b : Bool} (hx : isE E ts i x = b) : Calls Tryz.prog 93 #[dp rb, .string (St x)] w fun e w' => e = .returned (.bool b) ∧ Below w.heap.size w w' := by
  rw [← hx]; exact ris_any h x
theorem take_gt {k : Int} {t : Tp} {j2 : Nat} {E2 : Int} {j : Nat} (h : Cm (lf 0 (j + 1) (takeS ts k (j + 1))) t j2 E2) : j < j2 := by have := take_lf h; omega
set_option maxRecDepth 100000 in
set_option maxHeartbeats 2000000 in
theorem raggs_any (h : Ry B ts w rb tv sv E o i qs) : Calls Tryz.prog 95 #[dp rb] w (Y1 B ts rb tv sv o qs w (vlista w.heap.size) (lf E i (listS ts (aggS ts) i))) := by
  have htl := h.tl
  have hf1 := fld1
  have HA0 : Hid (Ag B ts w rb tv sv E o i qs w.heap.size (.slice none 0 0) [] (w.alloc (.cells agC 9))) := ⟨h.on ((Below.refl _ _).alloc (Nat.le_refl _) _), Own.nil _ _ _ _ _, Kp.alloc _ _ _, alloc_block _ _, Nat.le_refl _, h.lt⟩
  have HR0 := hid h
  clear h
  go_enter Tryz.func95, Tryz.ntmps95
  go_upto_region 3 with fail
  generalize w.alloc (.cells agC 9) = W0 at *
  go_loopw [4] (fun u wr => ∃ (f j : Nat) (acc : List (Int × List UInt8)) (Ej : Int), Hid (InvA ts E i f acc Ej j) ∧ Hid (ts.length ≤ f + j ∧ acc.length ≤ j) ∧ Hid (Ag B ts w rb tv sv Ej o j qs w.heap.size u acc wr)) (fun _ wr => ts.length + 1 - atOf rb wr)
  case atStart => exact ⟨ts.length, i, [], E, inva_start, ⟨by omega, by simp⟩, HA0.out⟩
  case round =>
    obtain ⟨f, j, acc, Ej, HI, HF, HAr⟩ := hrel
    clear HA0
    obtain ⟨pu, cu, rfl⟩ := HAr.out.ow.form
    go_upto_region 4 with fail
    go_loopw [5] (fun u5 wr2 => ∃ k : Nat, u5 = .int .i64 k ∧ (1 : Int) ≤ k ∧ (k : Int) ≤ 7 ∧ Hid (∀ m, m < k - 1 → isE Ej ts j (aggW.getD m []) = false) ∧ Hid (Ag B ts w rb tv sv Ej o j qs w.heap.size (.slice pu acc.length cu) acc wr2)) (fun u _ => 7 - (intOf u).toNat)
    case atStart => exact ⟨1, rfl, by omega, by omega, fun m hm => by omega, HAr.out⟩
    case round =>
      obtain ⟨k, rfl, hk1, hk7, HNo, HA2⟩ := hrel
      by_cases h7 : k < 7
      · have kI : (k : Int) < 7 := by omega
        have k0 : (0 : Int) ≤ k := by omega
        have cS := (block_cell HA2.out.b k).trans (agC_at k (by omega) h7)
        have H7 := hid h7
        cases hs : isE Ej ts j (aggW.getD (k - 1) []) with
        | false =>
          have HSs := hid hs
          clear hs h7
          go_wp2_with (go_at_call 93; refine (ris_is HA2.out.r HSs.out).mono ?_; rintro e w3 ⟨rfl, hb⟩; have HA3 := hid (HA2.out.on hb); clear hb)
          go_roundw
          case rel => exact ⟨k + 1, by simp, by omega, by omega, fun m hm => by
            rcases Nat.lt_or_ge m (k - 1) with h | h
            · exact HNo.out m h
            · rw [show m = k - 1 by omega]; exact HSs.out, HA3.out⟩
          case measure => simp [intOf]; have := H7.out; omega
        | true =>
          have HSs := hid hs
          have hE := isE_E hs
          subst hE
          have HLt := hid (isE_lt hs)
          have jI : (j : Int) ≤ 1024 := by have := isE_lt hs; omega
          have j0 : (0 : Int) ≤ j := by omega
          have HAg := hid (agg_at (by omega) h7 HNo.out (isE_W hs))
          have nk7 : ((k : Int) == 7) = false := by simp; omega
          clear hs h7
          by_cases hk : k = 1
          · subst hk
            go_upto_region 13 with (go_at_call 93; refine (ris_is HA2.out.r HSs.out).mono ?_; rintro e w3 ⟨rfl, hb⟩; have HA3 := hid (HA2.out.on hb); have k3 := HA3.out.r.cell; have z3 := HA3.out.r.frozen; clear hb)
            have HA4 := hid (HA3.out.y1 (Kp.set (T := fun k => k = rb) rfl (.int .i64 ((j : Int) + 1))) (HA3.out.r.next HLt.out))
            have HSz : Hid ((w3.setCell ⟨rb, 1, none⟩ (.int .i64 ((j : Int) + 1))).heap.size = w3.heap.size) := by show _ = _; simp
            clear k3 z3
            generalize w3.setCell ⟨rb, 1, none⟩ (.int .i64 ((j : Int) + 1)) = W4 at *
            have HA5 := hid (HA4.out.on ((Below.refl _ _).alloc (Nat.le_refl _) (.cells #[.int .i64 1, .string ⟨#[]⟩] 80)))
            have HX5 := hid (alloc_block W4 (.cells #[.int .i64 1, .string ⟨#[]⟩] 80))
            rw [HSz.out] at HX5
            have c5 := block_cell HX5.out
            generalize W4.alloc (.cells #[.int .i64 1, .string ⟨#[]⟩] 80) = W5 at *
            have hcm : Cm (aggS ts j) ((1, []) : Int × List UInt8) (j + 1) 0 := .inr ⟨by have := HAg.out; simpa using this, rfl⟩
            have HCm := hid hcm
            clear hcm
            cases hw : isE 0 ts (j + 1) wComma with
            | true =>
              have HWw := hid hw
              obtain ⟨f', hf', hi'⟩ := inva_next HI.out HCm.out hw HF.out.1 (by omega)
              have HI' := hid hi'
              have HF' := hid hf'
              clear hw hi' hf'
              go_wp2_with (first
                | (at_builtin; refine app_N (ys := [((1, []) : Int × List UInt8)]) elem_agg (fun _ => rfl) (by intro y _ c hc; simp at hc; rcases hc with rfl | rfl <;> rfl) rfl _ _ rfl rfl (HA5.out.ow.on ((Below.refl _ _).alloc (Nat.le_refl _) (.cells #[.int .i64 ((1, []) : Int × List UInt8).1, .string (St ((1, []) : Int × List UInt8).2)] 80))) rfl (Own.sl (lista_one W5 ((1, []) : Int × List UInt8)) (fun _ => rfl)) (by simp) (by have := HF.out; have := HLt.out; simp; omega) (by decide) (Nat.le_trans HA5.out.k.size (by simp)) ?_; intro v7 w7 ho hg; have HA7 := hid (HA5.out.app HR0.out ((Below.refl _ _).alloc (Nat.le_refl _) _) hg ho); clear ho hg)
                | (go_at_call 56; refine (rsees_yes HA7.out.r (x := wComma) HWw.out).mono ?_; rintro e w8 ⟨rfl, hq, hk⟩; have HA8 := hid (HA7.out.y1 hk hq); clear hq hk))
              go_roundw
              case rel => exact ⟨f', (j + 1) + 1, acc ++ [((1, []) : Int × List UInt8)], 0, HI'.out, ⟨by have := HF'.out; have := HF.out; omega, by have := HF.out; simp; omega⟩, by have := HA8.out; rw [isE_E HWw.out] at this; exact this⟩
              case measure => rw [HA8.out.r.atOf, HAr.out.r.atOf]; have := HLt.out; omega
            | false =>
              have HWw := hid hw
              clear hw
              go_wp2_with (first
                | (at_builtin; refine app_N (ys := [((1, []) : Int × List UInt8)]) elem_agg (fun _ => rfl) (by intro y _ c hc; simp at hc; rcases hc with rfl | rfl <;> rfl) rfl _ _ rfl rfl (HA5.out.ow.on ((Below.refl _ _).alloc (Nat.le_refl _) (.cells #[.int .i64 ((1, []) : Int × List UInt8).1, .string (St ((1, []) : Int × List UInt8).2)] 80))) rfl (Own.sl (lista_one W5 ((1, []) : Int × List UInt8)) (fun _ => rfl)) (by simp) (by have := HF.out; have := HLt.out; simp; omega) (by decide) (Nat.le_trans HA5.out.k.size (by simp)) ?_; intro v7 w7 ho hg; have HA7 := hid (HA5.out.app HR0.out ((Below.refl _ _).alloc (Nat.le_refl _) _) hg ho); clear ho hg)
                | (go_at_call 56; refine (rsees_no HA7.out.r (x := wComma) HWw.out).mono ?_; rintro e w8 ⟨rfl, hq, hk⟩; have HA8 := hid (HA7.out.y1 hk hq); clear hq hk))
              obtain ⟨pv, cv, hv⟩ := HA7.out.ow.form
              subst hv
              go_ret
              exact ⟨HA8.out.k, acc ++ [((1, []) : Int × List UInt8)], _, _, (j + 1), rfl, HA8.out.ow, HA8.out.r, inva_end HI.out HCm.out HWw.out⟩
          · have gk : decide ((1 : Int) < k) = true := by simp; omega
            have gkI : (1 : Int) < k := by omega
            have HK1 := hid hk
            clear hk
            go_upto_region 12 with (go_at_call 93; refine (ris_is HA2.out.r HSs.out).mono ?_; rintro e w3 ⟨rfl, hb⟩; have HA3 := hid (HA2.out.on hb); have k3 := HA3.out.r.cell; have z3 := HA3.out.r.frozen; clear hb)
            have HA4 := hid (HA3.out.y1 (Kp.set (T := fun k => k = rb) rfl (.int .i64 ((j : Int) + 1))) (HA3.out.r.next HLt.out))
            have HSz : Hid ((w3.setCell ⟨rb, 1, none⟩ (.int .i64 ((j : Int) + 1))).heap.size = w3.heap.size) := by show _ = _; simp
            clear k3 z3
            generalize w3.setCell ⟨rb, 1, none⟩ (.int .i64 ((j : Int) + 1)) = W4 at *
            go_upto_region 13 with (go_at_call 55; refine (rkind_any (HA4.out.on ((Below.refl _ _).alloc (Nat.le_refl _) (.cells #[.int .i64 k, .string ⟨#[]⟩] 80))).r 1).mono ?_; rintro e w6 ⟨hk, t6, v6, E6, j6, rfl, hv6, hq, hc⟩; obtain rfl := hv6; have HX6 := hid (hk.blk (alloc_block W4 (.cells #[.int .i64 k, .string ⟨#[]⟩] 80)) (fun e => by have := HA4.out.r.lt; omega)); have HA6 := hid ((HA4.out.on ((Below.refl _ _).alloc (Nat.le_refl _) (.cells #[.int .i64 k, .string ⟨#[]⟩] 80))).y1 hk hq); have HC6 := hid hc; rw [HSz.out] at HX6; have c6 := block_cell HX6.out 1; have z6 := block_frozen HX6.out 1; clear hk hq hc)
            have HA5 := hid (HA6.out.box (ab := w3.heap.size) (c := 1) (v := .string (St t6.s)) HR0.out (by have := HA3.out.k.size; omega) (by rw [← HSz.out]; exact HA4.out.own_lt) (fun e => by have := lt_of_block HA3.out.b; omega))
            have c5 := block_cell (block_set HX6.out 1 (.string (St t6.s)))
            clear c6 z6
            generalize w6.setCell ⟨w3.heap.size, 1, none⟩ (.string (St t6.s)) = W5 at *
            have hcm : Cm (aggS ts j) (((k : Int), t6.s) : Int × List UInt8) j6 E6 := by have h1 := HAg.out; rw [if_neg (by have := HK1.out; omega)] at h1; rw [h1]; have h2 := HC6.out; unfold lf at h2; rw [if_pos rfl] at h2; exact (show Cm (lf 0 (j + 1) (nameS ts (j + 1))) t6.s j6 E6 from HC6.out.map (g := fun t : Tp => t.s)).and ok_lf
            have HCm := hid hcm
            clear hcm
            cases hw : isE E6 ts j6 wComma with
            | true =>
              have HWw := hid hw
              obtain ⟨f', hf', hi'⟩ := inva_next HI.out HCm.out hw HF.out.1 (take_gt HC6.out)
              have HI' := hid hi'
              have HF' := hid hf'
              clear hw hi' hf'
              go_wp2_with (first
                | (at_builtin; refine app_N (ys := [(((k : Int), t6.s) : Int × List UInt8)]) elem_agg (fun _ => rfl) (by intro y _ c hc; simp at hc; rcases hc with rfl | rfl <;> rfl) rfl _ _ rfl rfl (HA5.out.ow.on ((Below.refl _ _).alloc (Nat.le_refl _) (.cells #[.int .i64 (((k : Int), t6.s) : Int × List UInt8).1, .string (St (((k : Int), t6.s) : Int × List UInt8).2)] 80))) rfl (Own.sl (lista_one _ (((k : Int), t6.s) : Int × List UInt8)) (fun _ => rfl)) (by simp) (by have := HF.out; have := HLt.out; simp; omega) (by decide) (Nat.le_trans HA5.out.k.size (by simp)) ?_; intro v7 w7 ho hg; have HA7 := hid (HA5.out.app HR0.out ((Below.refl _ _).alloc (Nat.le_refl _) _) hg ho); clear ho hg)
                | (go_at_call 56; refine (rsees_yes HA7.out.r (x := wComma) HWw.out).mono ?_; rintro e w8 ⟨rfl, hq, hk⟩; have HA8 := hid (HA7.out.y1 hk hq); clear hq hk))
              go_roundw
              case rel => exact ⟨f', j6 + 1, acc ++ [(((k : Int), t6.s) : Int × List UInt8)], 0, HI'.out, ⟨by have := HF'.out; have := HF.out; have := take_gt HC6.out; omega, by have := HF.out; have := take_gt HC6.out; simp; omega⟩, by have := HA8.out; rw [isE_E HWw.out] at this; exact this⟩
              case measure => rw [HA8.out.r.atOf, HAr.out.r.atOf]; have := HLt.out; have := take_gt HC6.out; omega
            | false =>
              have HWw := hid hw
              clear hw
              go_wp2_with (first
                | (at_builtin; refine app_N (ys := [(((k : Int), t6.s) : Int × List UInt8)]) elem_agg (fun _ => rfl) (by intro y _ c hc; simp at hc; rcases hc with rfl | rfl <;> rfl) rfl _ _ rfl rfl (HA5.out.ow.on ((Below.refl _ _).alloc (Nat.le_refl _) (.cells #[.int .i64 (((k : Int), t6.s) : Int × List UInt8).1, .string (St (((k : Int), t6.s) : Int × List UInt8).2)] 80))) rfl (Own.sl (lista_one _ (((k : Int), t6.s) : Int × List UInt8)) (fun _ => rfl)) (by simp) (by have := HF.out; have := HLt.out; simp; omega) (by decide) (Nat.le_trans HA5.out.k.size (by simp)) ?_; intro v7 w7 ho hg; have HA7 := hid (HA5.out.app HR0.out ((Below.refl _ _).alloc (Nat.le_refl _) _) hg ho); clear ho hg)
                | (go_at_call 56; refine (rsees_no HA7.out.r (x := wComma) HWw.out).mono ?_; rintro e w8 ⟨rfl, hq, hk⟩; have HA8 := hid (HA7.out.y1 hk hq); clear hq hk))
              obtain ⟨pv, cv, hv⟩ := HA7.out.ow.form
              subst hv
              go_ret
              exact ⟨HA8.out.k, acc ++ [(((k : Int), t6.s) : Int × List UInt8)], _, _, j6, rfl, HA8.out.ow, HA8.out.r, inva_end HI.out HCm.out HWw.out⟩
      · obtain rfl : k = 7 := by omega
        clear h7 hk1 hk7
        go_wp2_with (go_at_call 59; refine (rfail_any HA2.out.r).mono ?_; rintro e w6 ⟨rfl, hq, hk⟩; have HA6 := hid (HA2.out.y1 hk hq); clear hq hk)
        go_ret
        exact ⟨HA6.out.k, acc, _, _, j, rfl, HA6.out.ow, HA6.out.r, inva_none HI.out HNo.out acc⟩
end
end Go.Proofs.YtomnjckbgmbgmaaGreatDoor
namespace Go.Proofs.YtomnjckbgmbgmaaGreatDoor
open Go.RowKit Go.Joins

theorem and_assoc' {α β γ : Type} (r : Rs α) (f : α → Nat → Rs β) (g : β → Nat → Rs γ) : (r.and f).and g = r.and fun x j => (f x j).and g := by cases r <;> rfl
theorem Cm.nm {ts : List Tp} {t : Tp} {i j : Nat} {E E' : Int} (h : Cm (lf E i (takeS ts 1 i)) t j E') : Cm (lf E i (nameS ts i)) t.s j E' := h.map (g := fun t : Tp => t.s)
theorem Cm.nu {ts : List Tp} {t : Tp} {i j : Nat} {E E' : Int} (h : Cm (lf E i (takeS ts 2 i)) t j E') : Cm (lf E i (numS' ts i)) t.n j E' := h.map (g := fun t : Tp => t.n)
/- A step, with the node that it lays. -/
abbrev stepK (r : Np × List Np) (j : Nat) : Rs (Nat × List Np) := .ok (r.2.length, r.2 ++ [r.1]) j
section
variable {ts : List Tp} {i j j1 j2 j3 j4 j5 : Nat} {E E1 E2 E3 E4 E5 : Int} {t2 t3 t5 : Tp}
theorem fetch_cm0 (h1 : Cm (lf E i (wantS ts wFetch i)) () j1 E1) (h2 : Cm (lf E1 j1 (takeS ts 1 j1)) t2 j2 E2) (hf : isE E2 ts j2 wFrom = false) : Cm (lf E i (fetchS ts i)) { n0 with kind := 1, s := t2.s, to_ := 1099511627775 } j2 E2 := by
  refine h1.lfand (h2.nm.lfand ?_)
  by_cases hE : E2 = 0
  · subst hE
    rw [isE_false hf rfl, if_neg (by decide)]; exact ok_lf
  · exact lf_bad hE
theorem fetch_cm1 (h1 : Cm (lf E i (wantS ts wFetch i)) () j1 E1) (h2 : Cm (lf E1 j1 (takeS ts 1 j1)) t2 j2 E2) (hf : isE E2 ts j2 wFrom = true) (h3 : Cm (lf E2 (j2 + 1) (takeS ts 2 (j2 + 1))) t3 j3 E3) (h4 : Cm (lf E3 j3 (wantS ts wTo j3)) () j4 E4) (h5 : Cm (lf E4 j4 (takeS ts 2 j4)) t5 j5 E5) : Cm (lf E i (fetchS ts i)) { n0 with kind := 1, s := t2.s, from_ := t3.n, to_ := t5.n } j5 E5 := by
  refine h1.lfand (h2.nm.lfand ?_)
  have hE := isE_E hf
  subst hE
  rw [isE_W hf, if_pos rfl]
  have h : Cm (lf 0 (j2 + 1) ((numS' ts (j2 + 1)).and fun a j => (wantS ts wTo j).and fun _ j => (numS' ts j).and fun b j => .ok { n0 with kind := 1, s := t2.s, from_ := a, to_ := b } j)) { n0 with kind := 1, s := t2.s, from_ := t3.n, to_ := t5.n } j5 E5 := h3.nu.lfand (h4.lfand (h5.nu.lfand ok_lf))
  exact h
theorem fetch_len {n : Np} (h : Cm (lf E i (fetchS ts i)) n j E1) (hE : E1 = 0) : E = 0 ∧ fetchS ts i = .ok n j ∧ i + 1 ≤ j := by
  rcases h with ⟨-, h⟩ | ⟨h, -⟩
  · exact absurd hE h
  · unfold lf at h
    split at h
    · rename_i hE0
      exact ⟨hE0, h, (fetch_go ts _ _ _ h).1⟩
    · cases h
/- The loop over the steps. -/
def InvQ (ts : List Tp) (st : Nat → Nat → List Np → Rs (Np × List Np)) (T : Rs (Nat × List Np)) (f : Nat) (z : Int) (j : Nat) (ns : List Np) (E : Int) : Prop :=
  (¬ E = 0 ∧ T = .bad j E) ∨ (E = 0 ∧ ∃ a : Nat, z = a ∧ T = stepsL ts st f a j ns ∧ ts.length ≤ f + j)
theorem invq_start {c : PN} {d : Option PN} {ns ns5 : List Np} {n : Np} {z : Int} (hf : Cm (lf E i (fetchS ts i)) n j E1) (h : Cm2 (lf E1 j (.ok (ns.length, ns ++ [n]) j)) z ns5 j5 E5) : InvQ ts (stepB ts c d) (lf E i (queryB ts c d i ns)) ts.length z j5 ns5 E5 := by
  by_cases hE : E1 = 0
  · obtain ⟨rfl, h2, h3⟩ := fetch_len hf hE
    subst hE
    unfold lf at h; rw [if_pos rfl] at h
    rcases h with ⟨h, -⟩ | ⟨a, rfl, h, rfl⟩
    · cases h
    · cases h
      refine .inr ⟨rfl, _, rfl, ?_, by omega⟩
      unfold lf queryB; rw [if_pos rfl, h2]; rfl
  · unfold lf at h; rw [if_neg hE] at h
    rcases h with ⟨h, h5⟩ | ⟨a, -, h, -⟩
    · cases h
      refine .inl ⟨h5, ?_⟩
      rcases hf with ⟨hf, -⟩ | ⟨-, hf⟩
      · unfold queryB; exact lf_bad_and hf
      · exact absurd hf hE
    · cases h
theorem invq_more {st : Nat → Nat → List Np → Rs (Np × List Np)} {T : Rs (Nat × List Np)} {f : Nat} {z : Int} {ns : List Np} (h : InvQ ts st T f z j ns 0) (hw : isW ts j wBar = true) : ∃ f' a : Nat, z = a ∧ ts.length ≤ f' + 1 + j ∧ T = (st a (j + 1) ns).and fun r j => stepsL ts st f' r.2.length j (r.2 ++ [r.1]) := by
  rcases h with ⟨h, -⟩ | ⟨-, a, rfl, h, hf⟩
  · exact absurd rfl h
  · have := isW_lt hw
    obtain ⟨f', rfl⟩ : ∃ f', f = f' + 1 := ⟨f - 1, by omega⟩
    exact ⟨f', a, rfl, hf, by rw [h, stepsL, if_pos hw]⟩
theorem invq_end {st : Nat → Nat → List Np → Rs (Np × List Np)} {T : Rs (Nat × List Np)} {f : Nat} {z : Int} {ns : List Np} (h : InvQ ts st T f z j ns E) (hw : isE E ts j wBar = false) : Cm2 T z ns j E := by
  rcases h with ⟨h, h2⟩ | ⟨rfl, a, rfl, h, hf⟩
  · exact .inl ⟨h2, h⟩
  · refine .inr ⟨a, rfl, ?_, rfl⟩
    rw [h]
    cases f with
    | zero => rfl
    | succ f => rw [stepsL, isE_false hw rfl, if_neg (by decide)]
theorem invq_next {c : PN} {d : Option PN} {T : Rs (Nat × List Np)} {f' a : Nat} {z4 : Int} {ns ns4 : List Np} (hc : GoN ts c) (hd : ∀ p, d = some p → GoN ts p) (hf : ts.length ≤ f' + 1 + j) (hT : T = (stepB ts c d a (j + 1) ns).and fun r j => stepsL ts (stepB ts c d) f' r.2.length j (r.2 ++ [r.1])) (h : Cm2 ((stepB ts c d a (j + 1) ns).and stepK) z4 ns4 j4 E4) : InvQ ts (stepB ts c d) T f' z4 j4 ns4 E4 ∧ (E4 = 0 → j + 1 < j4) := by
  cases hs : stepB ts c d a (j + 1) ns with
  | bad k e =>
    rw [hs] at h hT
    rcases h with ⟨h, h5⟩ | ⟨a, -, h, -⟩
    · cases h
      exact ⟨.inl ⟨h5, hT⟩, fun e => absurd e h5⟩
    · cases h
  | ok r k =>
    rw [hs] at h hT
    have hg := stepB_go hc hd _ _ _ _ _ hs
    rcases h with ⟨h, -⟩ | ⟨b, rfl, h, rfl⟩
    · cases h
    · cases h
      exact ⟨.inr ⟨rfl, _, rfl, hT, by omega⟩, fun _ => by omega⟩
end
end Go.Proofs.YtomnjckbgmbgmaaGreatDoor
namespace Go.Proofs.YtomnjckbgmbgmaaGreatDoor
open Go.RowKit Go.Joins

section
variable {B : Nat} {ts : List Tp} {w w' : World} {rb : Nat} {tv sv : Value} {E : Int} {o i : Nat} {qs : List Nd}
/- What a step does, at a depth. -/
def StepY (B : Nat) (ts : List Tp) (rb : Nat) (tv : Value) (o : Nat) (c : PN) (d : Option PN) : Prop := ∀ (w : World) (sv : Value) (i : Nat) (qs : List Nd) (rows : Nat), rows < 2000 → Ry B ts w rb tv sv 0 o i qs → Calls Tryz.prog 58 #[dp rb, .int .i64 (rows : Int)] w (Y2 B ts rb tv sv o w ((stepB ts c d rows i (qs.map (·.np))).and stepK))
set_option maxRecDepth 100000 in
set_option maxHeartbeats 4000000 in
theorem rquery_any {c : PN} {d : Option PN} (hs : E = 0 → StepY B ts rb tv o c d) (hc : GoN ts c) (hd : ∀ p, d = some p → GoN ts p) (h : Ry B ts w rb tv sv E o i qs) : Calls Tryz.prog 31 #[dp rb] w (Y2 B ts rb tv sv o w (lf E i (queryB ts c d i (qs.map (·.np))))) := by
  have HST := hid hs
  have HGc := hid hc
  have HGd := hid hd
  have HQL := hid h.ql
  have HLt := hid h.lt
  have htl := h.tl
  have hf1 := fld1
  have hf2 := fld2
  have HR0 := hid h
  have M1 : Hid True := trivial
  generalize hT : lf E i (queryB ts c d i (qs.map (·.np))) = T at *
  have HTt := hid hT
  clear h hT hs hc hd
  go_enter Tryz.func31, Tryz.ntmps31
  go_upto_region 3 with (first
    | (refine store_nd (q := bare { n0 with kind := 1, s := t3.s, to_ := 1099511627775 }) rfl _ _ rfl rfl rfl (bare_all _) (alloc_block w3 _) rfl ?_; intro w4 h4 k4; have HB4 := hid (Bn.start2 HQ3.out HK3.out.r (At.refl w sv) HLt.out h4 k4); clear h4 k4)
    | (go_at_call 54; refine (rwants_any HR0.out wFetch).mono ?_; rintro e w2 ⟨hk, x2, v2, E2, j2, rfl, hv2, hq, hc⟩; obtain rfl := hv2; have HK2 := hid hk; have HQ2 := hid hq; have HC2 := hid hc; clear hk hq hc)
    | (go_at_call 55; refine (rkind_any HQ2.out 1).mono ?_; rintro e w3 ⟨hk, t3, v3, E3, j3, rfl, hv3, hq, hc⟩; obtain rfl := hv3; have HK3 := hid (HK2.out.trans hk); have HQ3 := hid hq; have HC3 := hid hc; clear hk hq hc))
  generalize w3.heap.size = nb at *
  cases hh : isE E3 ts j3 wFrom with
  | true =>
    have HH := hid hh
    clear hh
    go_upto_region 8 with (first
      | (go_at_call 56; refine (rsees_yes HB4.out.r (x := wFrom) HH.out).mono ?_; rintro e w5 ⟨rfl, hq, hk⟩; have HB5 := hid (HB4.out.y1 hk hq); clear hq hk)
      | (go_at_call 55; have FIRST := M1; refine (rkind_any HB5.out.r 2).mono ?_; rintro e w6 ⟨hk, t6, v6, E6, j6, rfl, hv6, hq, hc⟩; obtain rfl := hv6; have HB6 := hid (HB5.out.y1 hk hq); have HC6 := hid hc; have c6 := block_cell HB6.out.b 3; have z6 := block_frozen HB6.out.b 3; have HB7 := hid (HB6.out.set1 (q' := bare { n0 with kind := 1, s := t3.s, from_ := t6.n, to_ := 1099511627775 }) 3 (.int .i64 t6.n) (by kernel_rfl)); clear hk hq hc FIRST M1)
      | (go_at_call 54; clear c6 z6; refine (rwants_any HB7.out.r wTo).mono ?_; rintro e w8 ⟨hk, x8, v8, E8, j8, rfl, hv8, hq, hc⟩; obtain rfl := hv8; have HB8 := hid (HB7.out.y1 hk hq); have HC8 := hid hc; clear hk hq hc)
      | (go_at_call 55; refine (rkind_any HB8.out.r 2).mono ?_; rintro e w9 ⟨hk, t9, v9, E9, j9, rfl, hv9, hq, hc⟩; obtain rfl := hv9; have HB9 := hid (HB8.out.y1 hk hq); have HC9 := hid hc; have c9 := block_cell HB9.out.b 4; have z9 := block_frozen HB9.out.b 4; have HBa := hid (HB9.out.set1 (q' := bare { n0 with kind := 1, s := t3.s, from_ := t6.n, to_ := t9.n }) 4 (.int .i64 t9.n) (by kernel_rfl)); have HF := hid (fetch_cm1 HC2.out HC3.out HH.out HC6.out HC8.out hc); clear hk hq hc)
      | (refine load_node (q := bare { n0 with kind := 1, s := t3.s, from_ := t6.n, to_ := t9.n }) rfl _ rfl rfl HBa.out.b ?_)
      | (go_at_call 57; clear c9 z9; refine (rlay_any HBa.out.r (bare_in _ _ rfl rfl rfl) (fun e => by have h1 := fetch_len HF.out e; have := HQL.out; omega)).mono ?_; rintro e w1 ⟨hk, z1, E1, j1, sv1, qs1, rfl, hz1, hq, ha, hc⟩; have HB1 := hid (HBa.out.y2 hk ha hq); have HC1 := hid hc; have hz1a := hz1.1; have hz1b := hz1.2; clear hk hq hc ha hz1))
    have HI1 : Hid (InvQ ts (stepB ts c d) T ts.length z1 j1 (qs1.map (·.np)) E1) := by rw [← HTt.out]; exact invq_start HF.out (by have := HC1.out; simpa using this)
    have HE1 : Hid (¬ E = 0 → ¬ E1 = 0) := fun hE h1 => by
      rcases HI1.out with ⟨h2, -⟩ | ⟨-, a, -, h3, -⟩
      · exact h2 h1
      · rcases HC1.out with ⟨-, h4⟩ | ⟨_, -, h5, -⟩
        · exact h4 h1
        · unfold lf at h5
          split at h5
          · exact hE (fetch_len HF.out (by assumption)).1
          · cases h5
    have HO1 := hid HB1.out.r
    have HK1 := hid HB1.out.k
    have HA1 := hid HB1.out.a
    clear HB1 HC1 HF HB4 HH
    go_loopw [4] (fun u wr => ∃ (f : Nat) (z : Int) (j : Nat) (Ej : Int) (sv' : Value) (qs' : List Nd), Hid (InvQ ts (stepB ts c d) T f z j (qs'.map (·.np)) Ej) ∧ Hid (¬ E = 0 → ¬ Ej = 0) ∧ u = .int .i64 z ∧ -1 ≤ z ∧ z ≤ 1024 ∧ Hid (Ry B ts wr rb tv sv' Ej o j qs') ∧ Hid (Kp (Tq rb sv) w wr) ∧ Hid (At w sv sv')) (fun _ wr => msr rb ts wr)
    case atStart => exact ⟨ts.length, z1, j1, E1, sv1, qs1, HI1.out, HE1.out, rfl, hz1a, hz1b, HO1.out, HK1.out, HA1.out⟩
    case round =>
      obtain ⟨f, z, j, Ej, sv', qs', HI, HEr, rfl, hza, hzb, HQr, HKr, HAr⟩ := hrel
      clear HI1 HO1 HK1 HA1 hz1a hz1b HE1
      cases hw : isE Ej ts j wBar with
      | true =>
        have hE := isE_E hw
        subst hE
        have HWw := hid hw
        obtain ⟨f', a, rfl, hf', hT2⟩ := invq_more HI.out (isE_W hw)
        have HF2 := hid hf'
        have HT2 := hid hT2
        have HLj := hid (isE_lt hw)
        have HE0 : Hid (E = 0) := Classical.byContradiction fun hE => HEr.out hE rfl
        have ha2 : a < 2000 := by omega
        clear hw HI hT2 hf'
        go_wp2_with (first
          | (go_at_call 56; refine (rsees_yes HQr.out (x := wBar) HWw.out).mono ?_; rintro e w3 ⟨rfl, hq, hk⟩; have HQ3 := hid hq; have HK3 := hid (HKr.out.next HAr.out hk.r); clear hq hk)
          | (go_at_call 58; refine (HST.out HE0.out _ _ _ _ a ha2 HQ3.out).mono ?_; rintro e w4 ⟨hk, z4, E4, j4, sv4, qs4, rfl, hz4, hq, ha, hc⟩; have HK4 := hid (HK3.out.next HAr.out hk); have HQ4 := hid hq; have HC4 := hid hc; have HA4 := hid (HAr.out.trans ha HK3.out.size); have hz4a := hz4.1; have hz4b := hz4.2; clear hk hq hc ha hz4))
        have HI4 := invq_next HGc.out HGd.out HF2.out HT2.out HC4.out
        go_roundw
        case rel => exact ⟨f', z4, j4, E4, sv4, qs4, HI4.1, fun hE => absurd HE0.out hE, rfl, hz4a, hz4b, HQ4.out, HK4.out, HA4.out⟩
        case measure =>
          rw [HQ4.out.msr, HQr.out.msr, if_pos rfl]
          split
          · have := HI4.2 (by assumption); have := HQ4.out.il; omega
          · have := HLj.out; omega
      | false =>
        have HWw := hid hw
        have HM2 := hid (invq_end HI.out hw)
        clear hw HI
        go_wp2_with (go_at_call 56; refine (rsees_no HQr.out (x := wBar) HWw.out).mono ?_; rintro e w3 ⟨rfl, hq, hk⟩; have HQ3 := hid hq; have HK3 := hid (HKr.out.next HAr.out hk.r); clear hq hk)
        go_ret
        exact ⟨HK3.out, z, Ej, j, sv', qs', rfl, ⟨hza, hzb⟩, HQ3.out, HAr.out, HM2.out⟩
  | false =>
    have HH := hid hh
    clear hh
    go_upto_region 8 with (first
      | (go_at_call 56; refine (rsees_no HB4.out.r (x := wFrom) HH.out).mono ?_; rintro e w5 ⟨rfl, hq, hk⟩; have HB5 := hid (HB4.out.y1 hk hq); have HF := hid (fetch_cm0 HC2.out HC3.out HH.out); clear hq hk)
      | (refine load_node (q := bare { n0 with kind := 1, s := t3.s, to_ := 1099511627775 }) rfl _ rfl rfl HB5.out.b ?_)
      | (go_at_call 57; refine (rlay_any HB5.out.r (bare_in _ _ rfl rfl rfl) (fun e => by have h1 := fetch_len HF.out e; have := HQL.out; omega)).mono ?_; rintro e w1 ⟨hk, z1, E1, j1, sv1, qs1, rfl, hz1, hq, ha, hc⟩; have HB1 := hid (HB5.out.y2 hk ha hq); have HC1 := hid hc; have hz1a := hz1.1; have hz1b := hz1.2; clear hk hq hc ha hz1))
    have HI1 : Hid (InvQ ts (stepB ts c d) T ts.length z1 j1 (qs1.map (·.np)) E1) := by rw [← HTt.out]; exact invq_start HF.out (by have := HC1.out; simpa using this)
    have HE1 : Hid (¬ E = 0 → ¬ E1 = 0) := fun hE h1 => by
      rcases HI1.out with ⟨h2, -⟩ | ⟨-, a, -, h3, -⟩
      · exact h2 h1
      · rcases HC1.out with ⟨-, h4⟩ | ⟨_, -, h5, -⟩
        · exact h4 h1
        · unfold lf at h5
          split at h5
          · exact hE (fetch_len HF.out (by assumption)).1
          · cases h5
    have HO1 := hid HB1.out.r
    have HK1 := hid HB1.out.k
    have HA1 := hid HB1.out.a
    clear HB1 HC1 HF HB4 HH
    go_loopw [4] (fun u wr => ∃ (f : Nat) (z : Int) (j : Nat) (Ej : Int) (sv' : Value) (qs' : List Nd), Hid (InvQ ts (stepB ts c d) T f z j (qs'.map (·.np)) Ej) ∧ Hid (¬ E = 0 → ¬ Ej = 0) ∧ u = .int .i64 z ∧ -1 ≤ z ∧ z ≤ 1024 ∧ Hid (Ry B ts wr rb tv sv' Ej o j qs') ∧ Hid (Kp (Tq rb sv) w wr) ∧ Hid (At w sv sv')) (fun _ wr => msr rb ts wr)
    case atStart => exact ⟨ts.length, z1, j1, E1, sv1, qs1, HI1.out, HE1.out, rfl, hz1a, hz1b, HO1.out, HK1.out, HA1.out⟩
    case round =>
      obtain ⟨f, z, j, Ej, sv', qs', HI, HEr, rfl, hza, hzb, HQr, HKr, HAr⟩ := hrel
      clear HI1 HO1 HK1 HA1 hz1a hz1b HE1
      cases hw : isE Ej ts j wBar with
      | true =>
        have hE := isE_E hw
        subst hE
        have HWw := hid hw
        obtain ⟨f', a, rfl, hf', hT2⟩ := invq_more HI.out (isE_W hw)
        have HF2 := hid hf'
        have HT2 := hid hT2
        have HLj := hid (isE_lt hw)
        have HE0 : Hid (E = 0) := Classical.byContradiction fun hE => HEr.out hE rfl
        have ha2 : a < 2000 := by omega
        clear hw HI hT2 hf'
        go_wp2_with (first
          | (go_at_call 56; refine (rsees_yes HQr.out (x := wBar) HWw.out).mono ?_; rintro e w3 ⟨rfl, hq, hk⟩; have HQ3 := hid hq; have HK3 := hid (HKr.out.next HAr.out hk.r); clear hq hk)
          | (go_at_call 58; refine (HST.out HE0.out _ _ _ _ a ha2 HQ3.out).mono ?_; rintro e w4 ⟨hk, z4, E4, j4, sv4, qs4, rfl, hz4, hq, ha, hc⟩; have HK4 := hid (HK3.out.next HAr.out hk); have HQ4 := hid hq; have HC4 := hid hc; have HA4 := hid (HAr.out.trans ha HK3.out.size); have hz4a := hz4.1; have hz4b := hz4.2; clear hk hq hc ha hz4))
        have HI4 := invq_next HGc.out HGd.out HF2.out HT2.out HC4.out
        go_roundw
        case rel => exact ⟨f', z4, j4, E4, sv4, qs4, HI4.1, fun hE => absurd HE0.out hE, rfl, hz4a, hz4b, HQ4.out, HK4.out, HA4.out⟩
        case measure =>
          rw [HQ4.out.msr, HQr.out.msr, if_pos rfl]
          split
          · have := HI4.2 (by assumption); have := HQ4.out.il; omega
          · have := HLj.out; omega
      | false =>
        have HWw := hid hw
        have HM2 := hid (invq_end HI.out hw)
        clear hw HI
        go_wp2_with (go_at_call 56; refine (rsees_no HQr.out (x := wBar) HWw.out).mono ?_; rintro e w3 ⟨rfl, hq, hk⟩; have HQ3 := hid hq; have HK3 := hid (HKr.out.next HAr.out hk.r); clear hq hk)
        go_ret
        exact ⟨HK3.out, z, Ej, j, sv', qs', rfl, ⟨hza, hzb⟩, HQ3.out, HAr.out, HM2.out⟩
end
end Go.Proofs.YtomnjckbgmbgmaaGreatDoor
namespace Go.Proofs.YtomnjckbgmbgmaaGreatDoor
open Go.RowKit Go.Joins

/- A call of one argument, in a region that draws. -/
theorem step_call1 {ops : Array Oper} {o : Oper} {a : Act} {w : World} {K : Act → World → Prop} {Q : Exit → Act → World → Prop} {E : Prop} {f : FuncId} {v : Value} (hgd : o.guard = none) (x : Operand) (t : TypeId)
    (ho : o.op = .call { callee := .value (.func f), args := #[x], argTypes := #[t] }) (hx : a.eval x = v) (hen : ∀ args w, (callFunc f args).run Tryz.prog w = .ok (.enter f args) w)
    (hc : Calls Tryz.prog f #[v] w fun e w' => ∃ u, e = .returned u ∧ K (a.put o.dst u) w') : if Region.wanted o (yielded ops a.tmps) = true then Oper.wp Tryz.prog o a w K Q else E := by
  have hw : Region.wanted o (yielded ops a.tmps) = true := by simp [Region.wanted, hgd]
  rw [if_pos hw]
  unfold Oper.wp
  have hr : (execOp a.eval o).run Tryz.prog w = .ok (.enter f #[v]) w := by
    simp [execOp, ho, resolve, invoke, hen, go_sem]
    rw [← hx]
    cases x <;> simp [Act.eval]
  rw [hr, Oper.upon_enter]
  refine hc.mono ?_
  rintro e w' ⟨u, rfl, hk⟩
  exact hk
theorem enters_rcond : ∀ args w, (callFunc 34 args).run Tryz.prog w = .ok (.enter 34 args) w := enters_of Tryz.func34 (by kernel_rfl) rfl
theorem enters_rquery : ∀ args w, (callFunc 31 args).run Tryz.prog w = .ok (.enter 31 args) w := enters_of Tryz.func31 (by kernel_rfl) rfl
/- A second number behind the first, which has no room. -/
theorem step_app2 {ops : Array Oper} {op : Oper} {a : Act} {w : World} {K : Act → World → Prop} {Q : Exit → Act → World → Prop} {E : Prop} {B lb zb : Nat} {r z : Int} (hgd : op.guard = none) (s x : Operand) (ho : op.op = .call { callee := .builtin .append, args := #[s, x], argTypes := #[48, 48] })
    (hs : a.eval s = .slice (some ⟨lb, 0, none⟩) 1 1) (hx : a.eval x = .slice (some ⟨zb, 0, none⟩) 1 1) (hown : Own int1 1 3 B w (.slice (some ⟨lb, 0, none⟩) 1 1) [r]) (hz : w.cell? ⟨zb, 0, none⟩ = some (.int .i64 z)) (hB : B ≤ w.heap.size)
    (h : ∀ v' w', Own int1 1 3 B w' v' [r, z] → Below w.heap.size w w' → K (a.put op.dst v') w') : if Region.wanted op (yielded ops a.tmps) = true then Oper.wp Tryz.prog op a w K Q else E := by
  have hw : Region.wanted op (yielded ops a.tmps) = true := by simp [Region.wanted, hgd]
  rw [if_pos hw]
  obtain ⟨ht, hkp, i0, zz, hi, hz0, hz1, hz2, hzs⟩ := elem_int
  have hnews : ∀ (j : Nat) c, [Value.int .i64 z][j]? = some c → w.cell? ((⟨zb, 0, none⟩ : Addr).add j) = some c := by
    intro j c hj
    cases j with
    | zero => cases hj; rw [Addr.add_mid]; exact hz
    | succ j => cases hj
  have h1 : ∀ u ∈ [Value.int .i64 z], u.oneCell' = true := by intro u hu; simp at hu; subst hu; rfl
  have hby : (1 + 1) * i0.bytes ≤ 140737488355328 := Nat.le_trans (Nat.mul_le_mul_left _ hz2) (by decide)
  obtain ⟨v', w', hr, h2, h3, h4⟩ := run_append_own (P := Tryz.prog) w B 48 op.type 3 i0 zz 1 i0.bytes ht hi hz0 hz1 rfl hzs hkp _ 1 [Value.int .i64 r] hown ⟨zb, 0, none⟩ 1 1 [Value.int .i64 z] rfl hnews h1 (by decide) hby hB
  have holds : ∀ j u, [Value.int .i64 r][j]? = some u → w.cell? ((⟨lb, 0, none⟩ : Addr).add j) = some u := World.ownsRow.cells hown (g := lb) rfl
  have hr2 := run_append_grow (P := Tryz.prog) w 48 op.type 3 i0 zz ht hi hz0 ⟨lb, 0, none⟩ 1 1 [Value.int .i64 r] (by rw [hz1]; rfl) holds ⟨zb, 0, none⟩ 1 1 [Value.int .i64 z] (by rw [hz1]; rfl) hnews (by decide) (by decide) (growslice_fits (by decide) hby)
  have hb : Below w.heap.size w w' := by
    rw [hr] at hr2
    cases hr2
    exact (Below.refl _ _).drew.alloc (Nat.le_refl _) _
  unfold Oper.wp execOp
  simp only [ho, resolve, invoke, builtin, Sem.run_bind, Sem.run_pure, Result.andThen_ok, List.map_toArray, List.map_cons, List.map_nil, hs, hx, hr]
  exact h v' w' h2 hb
section
variable {B : Nat} {ts : List Tp} {w w' wr : World} {rb : Nat} {tv sv0 sv sv' : Value} {E E' : Int} {o o' i j j' : Nat} {qs qs' : List Nd} {nb : Nat} {q q' : Nd}
structure Bm (B : Nat) (ts : List Tp) (w : World) (rb : Nat) (tv sv0 sv : Value) (E : Int) (o j : Nat) (qs : List Nd) (nb : Nat) (q : Nd) (wr : World) : Prop where
  h : Bn B ts w rb tv sv0 sv E o j qs nb q wr
  d : NdIn B wr q
theorem Bm.y1 (h : Bm B ts w rb tv sv0 sv E o j qs nb q wr) (hk : Kp (fun k => k = rb) wr w') (hr : Ry B ts w' rb tv sv E' o' j' qs) : Bm B ts w rb tv sv0 sv E' o' j' qs nb q w' := ⟨h.h.y1 hk hr, h.d.kp hk h.h.r.tkr⟩
theorem Bm.y2 (h : Bm B ts w rb tv sv0 sv E o j qs nb q wr) (hk : Kp (Tq rb sv) wr w') (ha : At wr sv sv') (hr : Ry B ts w' rb tv sv' E' o' j' qs') : Bm B ts w rb tv sv0 sv' E' o' j' qs' nb q w' := ⟨h.h.y2 hk ha hr, h.d.kp hk h.h.r.tk⟩
theorem Bm.on (h : Bm B ts w rb tv sv0 sv E o j qs nb q wr) (hb : Below wr.heap.size wr w') : Bm B ts w rb tv sv0 sv E o j qs nb q w' := ⟨h.h.on hb, h.d.on hb⟩
theorem Bm.set1 (h : Bm B ts w rb tv sv0 sv E o j qs nb q wr) (c : Nat) (v : Value) (hq : q.cells.toArray.setIfInBounds c v = q'.cells.toArray) (hd : NdIn B wr q → NdIn B wr q') : Bm B ts w rb tv sv0 sv E o j qs nb q' (wr.setCell ⟨nb, c, none⟩ v) :=
  ⟨h.h.set1 c v hq, (hd h.d).kp (Kp.set (T := fun k => k = nb) rfl v) h.h.tk⟩
theorem Bm.start {rows : Int} (h : Ry B ts w rb tv sv E o j qs) (hS : S6 (w.alloc (.cells #[.int .i64 rows] 3)).heap.size (nam1 w { n0 with l := [rows] }).cells.toArray w') (hk' : Kp (fun k => k = (w.alloc (.cells #[.int .i64 rows] 3)).heap.size) ((w.alloc (.cells #[.int .i64 rows] 3)).alloc (.cells zNd 52)) w') :
    Bm B ts w rb tv sv sv E o j qs (w.alloc (.cells #[.int .i64 rows] 3)).heap.size (nam1 w { n0 with l := [rows] }) w' := by
  have hr := h.on ((Below.refl _ _).alloc (Nat.le_refl _) (.cells #[.int .i64 rows] 3))
  refine ⟨Bn.start2 hr (Kp.alloc _ _ _) (At.refl _ _) h.lt hS hk', ?_⟩
  have hd : NdIn B (w.alloc (.cells #[.int .i64 rows] 3)) (nam1 w { n0 with l := [rows] }) := nam1_in (a := rows) h.B_le rfl rfl rfl
  refine (hd.on ((Below.refl _ _).alloc (Nat.le_refl _) (.cells zNd 52))).kp hk' ?_
  rintro k rfl c t fz hc
  rw [alloc_block] at hc; cases hc; decide
theorem zNd_at (w : World) (rows : Int) : ((w.alloc (.cells #[.int .i64 rows] 3)).alloc (.cells zNd 52)).heap[w.heap.size + 1]? = some (.cells zNd 52 (0, 0)) := by
  have h := alloc_block (w.alloc (.cells #[.int .i64 rows] 3)) (.cells zNd 52)
  rw [show (w.alloc (.cells #[.int .i64 rows] 3)).heap.size = w.heap.size + 1 by simp] at h
  exact h
theorem Bm.start1 {rows : Int} (h : Ry B ts w rb tv sv E o j qs) (hS : S6 (w.heap.size + 1) (nam1 w { n0 with l := [rows] }).cells.toArray w') (hk' : Kp (fun k => k = w.heap.size + 1) ((w.alloc (.cells #[.int .i64 rows] 3)).alloc (.cells zNd 52)) w') : Bm B ts w rb tv sv sv E o j qs (w.heap.size + 1) (nam1 w { n0 with l := [rows] }) w' := by
  have e : (w.alloc (.cells #[.int .i64 rows] 3)).heap.size = w.heap.size + 1 := by simp
  have := Bm.start (rows := rows) (w' := w') h (by rw [e]; exact hS) (by rw [e]; exact hk')
  rw [e] at this; exact this
theorem NdIn.same (h : NdIn B w q) (h1 : q'.lv = q.lv) (h2 : q'.nv = q.nv) (h3 : q'.gv = q.gv) (h4 : q'.np.l = q.np.l) (h5 : q'.np.names = q.np.names) (h6 : q'.np.aggs = q.np.aggs) : NdIn B w q' :=
  ⟨by rw [h1, h4]; exact h.l, by rw [h2, h5]; exact h.n, by rw [h3, h6]; exact h.g⟩
/- Mathematics. -/
variable {c : PN} {d : Option PN} {rows : Nat} {ns ns9 : List Np} {z9 E9 : Int} {j9 : Nat}
theorem step_k {k : Nat} (hk : k < 7) (hn : ∀ m, m < k → isW ts i (stepW.getD m []) = false) (hy : isW ts i (stepW.getD k []) = true) : oneOfS ts stepW i = .ok k (i + 1) := by
  unfold oneOfS
  rw [idx_first stepW 0 k hk hn hy, Nat.zero_add]
theorem cm_fin {α : Type} {r : Rs α} {g : α → Np} {x : α} (h : Cm r x j E) (h9 : Cm2 (lf E j (.ok (ns.length, ns ++ [g x]) j)) z9 ns9 j9 E9) : Cm2 (r.and fun x j => .ok (ns.length, ns ++ [g x]) j) z9 ns9 j9 E9 := by
  rcases h with ⟨h, hE⟩ | ⟨h, rfl⟩
  · unfold lf at h9; rw [if_neg hE] at h9
    rw [h]; exact h9
  · unfold lf at h9; rw [if_pos rfl] at h9
    rw [h]; exact h9
theorem cm0 {α : Type} {r : Rs α} {x : α} (h : Cm (lf 0 i r) x j E) : Cm r x j E := by unfold lf at h; rw [if_pos rfl] at h; exact h
theorem step_none (hn : ∀ m, m < 7 → isW ts i (stepW.getD m []) = false) (h9 : Cm2 (lf 120 i (.ok (ns.length, ns ++ [n0]) i)) z9 ns9 j9 E9) : Cm2 ((stepB ts c d rows i ns).and stepK) z9 ns9 j9 E9 := by
  have e : stepB ts c d rows i ns = .bad i 120 := by unfold stepB oneOfS; rw [idx_nil stepW 0 hn]; rfl
  rw [e]
  unfold lf at h9; rw [if_neg (by decide)] at h9; exact h9
end
end Go.Proofs.YtomnjckbgmbgmaaGreatDoor
