/-
  What the tests of package pred tell of a row.
  The tests of a comparison and of a part.
  The test of a value at its place.
  A step: a node's test is held.
-/
import Derived.Test.YtcidijjbcebcbaaGreatKF08
import Derived.Deep.RegionHeld3
namespace Go.Proofs.YtcidijjbcebcbaaGreat.PD
open Go.RowKit Go.Joins

def Mx (w : World) : Prop := ∃ m, w.cell? ⟨0, 0, none⟩ = some (.int .i64 m)
theorem Mx.on {w w' : World} (h : Mx w) (hb : Below w.heap.size w w') : Mx w' := by
  obtain ⟨m, hm⟩ := h
  exact ⟨m, (hb.cell (p := ⟨_, 0, none⟩) (block_lt_of_cell hm)).trans hm⟩
def Rsz (row : TN.Rw) : Prop := ∀ v ∈ row, v.s.size < 4294967281
theorem slAt_pair {Q : Nat → Prop} {w : World} {v : Value} {l : List Int} (h : SlAt Q int1 1 w v l) {j : Nat} {a : Int} (ha : l[j]? = some a) : ∃ b o c, v = .slice (some ⟨b, o, none⟩) l.length c ∧ l.length ≤ c ∧ c ≤ maxLen ∧ w.cell? ⟨b, o + j, none⟩ = some (.int .i64 a) := by
  obtain ⟨p, c, rfl, h1, h2⟩ := h.form
  obtain ⟨b, o, rfl, -, hc⟩ := h.at ha
  have := hc 0 _ rfl
  rw [Nat.mul_one] at this
  exact ⟨b, o, c, rfl, h1, h2, this⟩
theorem never_any (rv : Value) (w : World) : Calls Tryz.prog 46 #[rv] w fun e w' => e = .returned (.bool false) ∧ w' = w := by
  go_enter Tryz.func46, Tryz.ntmps46
  go_wp2_with fail
  go_ret
  exact ⟨rfl, rfl⟩
set_option maxRecDepth 100000 in
set_option maxHeartbeats 1000000 in
theorem t3_any {hb lb hd a : Nat} {q : Nx} {hs : List Bool} {w : World} (rv : Value) (h2 : w.cell? ⟨hb, 0, none⟩ = some (slB hd hs.length)) (h3 : w.cell? ⟨lb, 0, none⟩ = some q.lv) (h4 : SlAt (fun b => b < hd) int1 1 w q.lv [(a : Int)]) (hH : Hd w hd hs) (ha : a < hs.length) : Calls Tryz.prog 70 #[rv, dp hb, dp lb] w fun e w' => e = .returned (.bool (!hsAt hs a)) ∧ Below w.heap.size w w' := by
  obtain ⟨b, o, c, e, hc1, hc2, hc⟩ := slAt_pair h4 (j := 0) rfl
  rw [e] at h3
  rw [Nat.add_zero] at hc
  have hx := hH.cell ha
  have ha' : (a : Int) < hs.length := by omega
  have ha0 : (0 : Int) ≤ a := by omega
  generalize hs.length = n at *
  simp only [List.length_cons, List.length_nil] at hc1 h3
  clear h4 e hH
  go_enter Tryz.func70, Tryz.ntmps70
  go_upto_region 1 with fail
  go_quiet (fail)
  go_wp2_with fail
  go_ret
  exact ⟨rfl, below_drewN (Below.refl _ _) _⟩
theorem slAt_two {Q : Nat → Prop} {w : World} {v : Value} {a b : Int} (h : SlAt Q int1 1 w v [a, b]) : ∃ g o c, v = .slice (some ⟨g, o, none⟩) 2 c ∧ 2 ≤ c ∧ c ≤ maxLen ∧ w.cell? ⟨g, o, none⟩ = some (.int .i64 a) ∧ w.cell? ⟨g, o + 1, none⟩ = some (.int .i64 b) := by
  obtain ⟨p, c, rfl, h1, h2⟩ := h.form
  obtain ⟨g, o, rfl, -, hc⟩ := h.at (j := 0) rfl
  obtain ⟨g', o', e', -, hc'⟩ := h.at (j := 1) rfl
  cases e'
  exact ⟨g, o, c, rfl, h1, h2, by have := hc 0 _ rfl; simpa using this, by have := hc' 0 _ rfl; simpa using this⟩
set_option maxRecDepth 100000 in
set_option maxHeartbeats 2000000 in
theorem t4_any {hb lb hd a b : Nat} {q : Nx} {hs : List Bool} {w : World} (rv : Value) (h2 : w.cell? ⟨hb, 0, none⟩ = some (slB hd hs.length)) (h3 : w.cell? ⟨lb, 0, none⟩ = some q.lv) (h4 : SlAt (fun b => b < hd) int1 1 w q.lv [(a : Int), (b : Int)]) (hH : Hd w hd hs) (ha : a < hs.length) (hb' : b < hs.length) : Calls Tryz.prog 71 #[rv, dp hb, dp lb] w fun e w' => e = .returned (.bool (hsAt hs a && hsAt hs b)) ∧ Below w.heap.size w w' := by
  obtain ⟨g, o, c, e, hc1, hc2, hca, hcb⟩ := slAt_two h4
  rw [e] at h3
  have hxa := hH.cell ha
  have hxb := hH.cell hb'
  have ha' : (a : Int) < hs.length := by omega
  have hb'' : (b : Int) < hs.length := by omega
  have ha0 : (0 : Int) ≤ a := by omega
  have hb0 : (0 : Int) ≤ b := by omega
  generalize hs.length = n at *
  clear h4 e hH ha hb'
  generalize hsAt hs a = x at *
  generalize hsAt hs b = y at *
  cases x with
  | true =>
    go_enter Tryz.func71, Tryz.ntmps71
    go_upto_region 1 with fail
    go_quiet (fail)
    go_wp2_with fail
    go_ret
    exact ⟨rfl, below_drewN (Below.refl _ _) _⟩
  | false =>
    go_enter Tryz.func71, Tryz.ntmps71
    go_upto_region 1 with fail
    go_quiet (fail)
    go_wp2_with fail
    go_ret
    exact ⟨rfl, below_drewN (Below.refl _ _) _⟩
set_option maxRecDepth 100000 in
set_option maxHeartbeats 2000000 in
theorem t5_any {hb lb hd a b : Nat} {q : Nx} {hs : List Bool} {w : World} (rv : Value) (h2 : w.cell? ⟨hb, 0, none⟩ = some (slB hd hs.length)) (h3 : w.cell? ⟨lb, 0, none⟩ = some q.lv) (h4 : SlAt (fun b => b < hd) int1 1 w q.lv [(a : Int), (b : Int)]) (hH : Hd w hd hs) (ha : a < hs.length) (hb' : b < hs.length) : Calls Tryz.prog 72 #[rv, dp hb, dp lb] w fun e w' => e = .returned (.bool (hsAt hs a || hsAt hs b)) ∧ Below w.heap.size w w' := by
  obtain ⟨g, o, c, e, hc1, hc2, hca, hcb⟩ := slAt_two h4
  rw [e] at h3
  have hxa := hH.cell ha
  have hxb := hH.cell hb'
  have ha' : (a : Int) < hs.length := by omega
  have hb'' : (b : Int) < hs.length := by omega
  have ha0 : (0 : Int) ≤ a := by omega
  have hb0 : (0 : Int) ≤ b := by omega
  generalize hs.length = n at *
  clear h4 e hH ha hb'
  generalize hsAt hs a = x at *
  generalize hsAt hs b = y at *
  cases x with
  | true =>
    go_enter Tryz.func72, Tryz.ntmps72
    go_upto_region 1 with fail
    go_quiet (fail)
    go_wp2_with fail
    go_ret
    exact ⟨rfl, below_drewN (Below.refl _ _) _⟩
  | false =>
    go_enter Tryz.func72, Tryz.ntmps72
    go_upto_region 1 with fail
    go_quiet (fail)
    go_wp2_with fail
    go_ret
    exact ⟨rfl, below_drewN (Below.refl _ _) _⟩
end Go.Proofs.YtcidijjbcebcbaaGreat.PD
namespace Go.Proofs.YtcidijjbcebcbaaGreat.PD
open Go.RowKit Go.Joins

structure NbC (w : World) (nb : Nat) (q : Nx) : Prop where
  c2 : w.cell? ⟨nb, 2, none⟩ = some (.int .i64 q.np.n)
  c5 : w.cell? ⟨nb, 5, none⟩ = some (.int .i64 q.np.vk)
  c6 : w.cell? ⟨nb, 6, none⟩ = some (.int .i64 q.np.vn)
  c7 : w.cell? ⟨nb, 7, none⟩ = some (.string (St q.np.vs))
  c8 : w.cell? ⟨nb, 8, none⟩ = some (.int .i64 q.h0)
  c9 : w.cell? ⟨nb, 9, none⟩ = some (.int .i64 q.h1)
  c10 : w.cell? ⟨nb, 10, none⟩ = some (.int .i64 q.h2)
  c11 : w.cell? ⟨nb, 11, none⟩ = some (.int .i64 q.h3)
  c12 : w.cell? ⟨nb, 12, none⟩ = some (.int .i64 q.h4)
  c13 : w.cell? ⟨nb, 13, none⟩ = some (.int .i64 q.h5)
  c14 : w.cell? ⟨nb, 14, none⟩ = some (.int .i64 q.h6)
  c15 : w.cell? ⟨nb, 15, none⟩ = some (.int .i64 q.h7)
theorem nbC {w : World} {nb : Nat} {q : Nx} (h : w.heap[nb]? = some (.cells q.cells.toArray 79 (0, 0))) : NbC w nb q :=
  ⟨block_cell h 2, block_cell h 5, block_cell h 6, block_cell h 7, block_cell h 8, block_cell h 9, block_cell h 10, block_cell h 11, block_cell h 12, block_cell h 13, block_cell h 14, block_cell h 15⟩
set_option maxRecDepth 100000 in
set_option maxHeartbeats 2000000 in
theorem t1_any {nb : Nat} {q : Nx} {w : World} (v : TN.Vl) (h4 : w.heap[nb]? = some (.cells q.cells.toArray 79 (0, 0))) : Calls Tryz.prog 66 #[v.val, dp nb] w fun e w' => e = .returned (.bool (cmpQ q v)) ∧ Below w.heap.size w w' := by
  have hl := lt_of_block h4
  have hne : nb ≠ w.heap.size := by omega
  obtain ⟨c2, c5, c6, c7, c8, c9, c10, c11, c12, c13, c14, c15⟩ := nbC h4
  have HC := hid (rfl : cmpQ q v = cmpQ q v)
  have HH : Hid (∀ W, Calls Tryz.prog 67 #[.int .i64 q.np.n, v.val, TN.V q.np.vk q.np.vn (St q.np.vs) q.h0 q.h1 q.h2 q.h3 q.h4 q.h5 q.h6 q.h7] W fun e w' => e = .returned (.bool (cmpQ q v)) ∧ Below W.heap.size W w') := fun W => TN.holds_any
  generalize cmpQ q v = r at *
  obtain ⟨np, g0, g1, g2, g3, g4, g5, g6, g7, lv, nv, gv⟩ := q
  obtain ⟨k, n, s, a0, a1, a2, a3, a4, a5, a6, a7, sm⟩ := v
  simp only at *
  clear h4
  go_enter Tryz.func66, Tryz.ntmps66
  go_wp2_with (go_at_call 67; refine (HH.out _).mono ?_; rintro e w1 ⟨rfl, hb⟩; have HB := hid hb; clear hb)
  go_ret
  exact ⟨rfl, TN.below_on ((Below.refl _ w).alloc (Nat.le_refl _) _) HB.out⟩
theorem vl_eta (v : TN.Vl) : v.val = .agg v.cells.toArray := rfl
set_option maxRecDepth 100000 in
set_option maxHeartbeats 2000000 in
theorem t2_any {nb : Nat} {q : Nx} {w : World} (v : TN.Vl) (h4 : w.heap[nb]? = some (.cells q.cells.toArray 79 (0, 0))) (hM : Mx w) (hv : v.s.size < 4294967281) : Calls Tryz.prog 68 #[v.val, dp nb] w fun e w' => e = .returned (.bool (hasQ q v)) ∧ Below w.heap.size w w' := by
  have hl := lt_of_block h4
  have hne : nb ≠ w.heap.size := by omega
  obtain ⟨c2, c5, c6, c7, c8, c9, c10, c11, c12, c13, c14, c15⟩ := nbC h4
  have HH : Hid (∀ W, Mx W → Calls Tryz.prog 69 #[.string v.s, .string (St q.np.vs)] W fun e w' => e = .returned (.bool (Lib.contains v.s.data.toList q.np.vs)) ∧ w' = W) := fun W ⟨m, hm⟩ => Tryz.strings_Contains v.s (St q.np.vs) m W hv hm
  have HM := hid (hM.on ((Below.refl _ w).alloc (Nat.le_refl _) (.cells v.cells.toArray 52)))
  unfold hasQ
  generalize Lib.contains v.s.data.toList q.np.vs = r at *
  clear hM
  obtain ⟨np, g0, g1, g2, g3, g4, g5, g6, g7, lv, nv, gv⟩ := q
  obtain ⟨k, n, s, a0, a1, a2, a3, a4, a5, a6, a7, sm⟩ := v
  simp only at *
  clear h4 hv
  by_cases hk : k = 2
  · subst hk
    go_enter Tryz.func68, Tryz.ntmps68
    go_wp2_with (go_at_call 69; refine (HH.out _ HM.out).mono ?_; rintro e w1 ⟨rfl, he⟩; replace he := he.symm; subst he)
    go_ret
    exact ⟨by simp, (Below.refl _ w).alloc (Nat.le_refl _) _⟩
  · have kb : (k == 2) = false := by simp [hk]
    have hd : decide (k = 2) = false := by simp [hk]
    rw [hd]
    clear hk
    go_enter Tryz.func68, Tryz.ntmps68
    go_wp2_with fail
    go_ret
    exact ⟨rfl, (Below.refl _ w).alloc (Nat.le_refl _) _⟩
end Go.Proofs.YtcidijjbcebcbaaGreat.PD
namespace Go.Proofs.YtcidijjbcebcbaaGreat.PD
open Go.RowKit Go.Joins

abbrev Sv (cb fb b o : Nat) (v1 v2 : Value) (x : TN.Vl) (w : World) : Prop := w.cell? ⟨cb, 0, none⟩ = some v1 ∧ w.cell? ⟨fb, 0, none⟩ = some v2 ∧ w.cell? ⟨b, o, none⟩ = some (.int .i64 x.k) ∧ w.cell? ⟨b, o + 1, none⟩ = some (.int .i64 x.n) ∧ w.cell? ⟨b, o + 2, none⟩ = some (.string x.s) ∧ w.cell? ⟨b, o + 3, none⟩ = some (.int .i64 x.h0) ∧ w.cell? ⟨b, o + 4, none⟩ = some (.int .i64 x.h1) ∧ w.cell? ⟨b, o + 5, none⟩ = some (.int .i64 x.h2) ∧ w.cell? ⟨b, o + 6, none⟩ = some (.int .i64 x.h3) ∧ w.cell? ⟨b, o + 7, none⟩ = some (.int .i64 x.h4) ∧ w.cell? ⟨b, o + 8, none⟩ = some (.int .i64 x.h5) ∧ w.cell? ⟨b, o + 9, none⟩ = some (.int .i64 x.h6) ∧ w.cell? ⟨b, o + 10, none⟩ = some (.int .i64 x.h7)
theorem svB {cb fb b o : Nat} {v1 v2 : Value} {x : TN.Vl} {w w' : World} (h : Sv cb fb b o v1 v2 x w) (hb : Below w.heap.size w w') : Sv cb fb b o v1 v2 x w' := by
  obtain ⟨a1, a2, b0, b1, b2, b3, b4, b5, b6, b7, b8, b9, b10⟩ := h
  have k : ∀ {a : Addr} {u : Value}, w.cell? a = some u → w'.cell? a = some u := fun {a u} h => (hb.cell (p := a) (block_lt_of_cell h)).trans h
  exact ⟨k a1, k a2, k b0, k b1, k b2, k b3, k b4, k b5, k b6, k b7, k b8, k b9, k b10⟩
theorem svD {cb fb b o : Nat} {v1 v2 : Value} {x : TN.Vl} {w : World} (h : Sv cb fb b o v1 v2 x w) : Sv cb fb b o v1 v2 x w.drew := h
/- A row's value at a place. -/
theorem row_at {w : World} {rv : Value} {row : TN.Rw} (h : TN.RowAt w rv row) : ∃ p c, rv = .slice p row.length c ∧ row.length ≤ maxLen ∧ (∀ (k : Nat) v, row[k]? = some v → ∃ b o, p = some ⟨b, o, none⟩ ∧ TN.ValCells w b (o + k * 11) v) := by
  obtain ⟨p, c, rfl, -, hm, hx⟩ := h
  refine ⟨p, c, rfl, hm, fun k v hk => ?_⟩
  obtain ⟨b, o, rfl, -, hj⟩ := hx (by intro e; subst e; simp at hk)
  exact ⟨b, o, rfl, TN.val_cells (hj k v hk)⟩
set_option maxRecDepth 100000 in
set_option maxHeartbeats 4000000 in
theorem of1_any {cb fb nb : Nat} {q : Nx} {cs : List TN.Cl} {w : World} {rv : Value} {row : TN.Rw} (h2 : w.cell? ⟨cb, 0, none⟩ = some (.int .i64 (TN.findC cs (St q.np.s)))) (h3 : w.cell? ⟨fb, 0, none⟩ = some (.func (.func 66) #[] #[dp nb])) (h4 : w.heap[nb]? = some (.cells q.cells.toArray 79 (0, 0))) (hr : TN.RowAt w rv row) : Calls Tryz.prog 86 #[rv, dp cb, dp fb] w fun e w' => e = .returned (.bool (match valAt cs row q.np.s with | some v => cmpQ q v | none => false)) ∧ Below w.heap.size w w' := by
  obtain ⟨p, cc, rfl, hm, hx⟩ := row_at hr
  unfold maxLen at hm
  unfold valAt
  generalize TN.findC cs (St q.np.s) = c at *
  clear hr
  by_cases h0 : 0 ≤ c
  · rw [if_pos h0]
    obtain ⟨k, rfl⟩ : ∃ k : Nat, c = k := ⟨c.toNat, by omega⟩
    rw [Int.toNat_natCast]
    by_cases hk : k < row.length
    · obtain ⟨v, hv⟩ : ∃ v, row[k]? = some v := ⟨_, List.getElem?_eq_getElem hk⟩
      obtain ⟨b, o, rfl, hc⟩ := hx k v hv
      rw [hv]
      show Calls _ _ _ _ fun e w' => e = .returned (.bool (cmpQ q v)) ∧ _
      have hS0 : Sv cb fb b (o + k * 11) (.int .i64 k) (.func (.func 66) #[] #[dp nb]) v w := ⟨h2, h3, hc.c0, hc.c1, hc.c2, hc.c3, hc.c4, hc.c5, hc.c6, hc.c7, hc.c8, hc.c9, hc.c10⟩
      have HT : Hid (∀ W, Below w.heap.size w W → Calls Tryz.prog 66 #[v.val, dp nb] W fun e w' => e = .returned (.bool (cmpQ q v)) ∧ Below W.heap.size W w') := fun W hb => t1_any v (block_on h4 hb)
      have hSx : Hid (∀ W, Below w.heap.size w W → Sv cb fb b (o + k * 11) (.int .i64 k) (.func (.func 66) #[] #[dp nb]) v W) := fun W hb => svB hS0 hb
      have HB0 : Hid (Below w.heap.size w w.drew) := (Below.refl _ _).drew
      generalize cmpQ q v = r at *
      obtain ⟨vk, vn, vs, a0, a1, a2, a3, a4, a5, a6, a7, sm⟩ := v
      have k0 : (0 : Int) ≤ k := by omega
      have k1 : (k : Int) < row.length := by omega
      have kb : decide (k < row.length) = true := by simp; omega
      try dsimp only at HT hS0 hSx
      generalize row.length = n at *
      clear hv hc h4 hx h2 h3 h0 hk
      go_enter Tryz.func86, Tryz.ntmps86
      go_upto_region 1 with fail
      go_region_held3 (Sv cb fb b (o + k * 11) (.int .i64 k) (.func (.func 66) #[] #[dp nb]) ⟨vk, vn, vs, a0, a1, a2, a3, a4, a5, a6, a7, sm⟩) (((repeat (first | (with_reducible refine svD ?_))); (with_reducible assumption)))
        (first | (go_at_call 66; refine (HT.out _ HB0.out).mono ?_; rintro e w5 ⟨rfl, hb⟩; have HB5 := hid (HB0.out.trans (hb.mono HB0.out.size)); have hS5 := hSx.out _ HB5.out; clear hb))
      all_goals
        (go_wp2_with fail
         go_ret
         exact ⟨rfl, HB5.out⟩)
    · rw [List.getElem?_eq_none (by omega)]
      have k0 : (0 : Int) ≤ k := by omega
      have k1 : ¬ (k : Int) < row.length := by omega
      have kb : decide (k < row.length) = false := by simp; omega
      generalize row.length = n at *
      clear h4 hx h0 hk h3
      go_enter Tryz.func86, Tryz.ntmps86
      go_upto_region 1 with fail
      go_quiet (fail)
      go_wp2_with fail
      go_ret
      exact ⟨rfl, below_drewN (Below.refl _ _) _⟩
  · rw [if_neg h0]
    have cb' : decide (0 ≤ c) = false := by simp; omega
    clear h4 hx h3
    go_enter Tryz.func86, Tryz.ntmps86
    go_upto_region 1 with fail
    go_quiet (fail)
    go_wp2_with fail
    go_ret
    exact ⟨rfl, below_drewN (Below.refl _ _) _⟩
set_option maxRecDepth 100000 in
set_option maxHeartbeats 4000000 in
theorem of2_any {cb fb nb : Nat} {q : Nx} {cs : List TN.Cl} {w : World} {rv : Value} {row : TN.Rw} (h2 : w.cell? ⟨cb, 0, none⟩ = some (.int .i64 (TN.findC cs (St q.np.s)))) (h3 : w.cell? ⟨fb, 0, none⟩ = some (.func (.func 68) #[] #[dp nb])) (h4 : w.heap[nb]? = some (.cells q.cells.toArray 79 (0, 0))) (hr : TN.RowAt w rv row) (hM : Mx w) (hz : Rsz row) : Calls Tryz.prog 86 #[rv, dp cb, dp fb] w fun e w' => e = .returned (.bool (match valAt cs row q.np.s with | some v => hasQ q v | none => false)) ∧ Below w.heap.size w w' := by
  obtain ⟨p, cc, rfl, hm, hx⟩ := row_at hr
  unfold maxLen at hm
  unfold valAt
  generalize TN.findC cs (St q.np.s) = c at *
  clear hr
  by_cases h0 : 0 ≤ c
  · rw [if_pos h0]
    obtain ⟨k, rfl⟩ : ∃ k : Nat, c = k := ⟨c.toNat, by omega⟩
    rw [Int.toNat_natCast]
    by_cases hk : k < row.length
    · obtain ⟨v, hv⟩ : ∃ v, row[k]? = some v := ⟨_, List.getElem?_eq_getElem hk⟩
      obtain ⟨b, o, rfl, hc⟩ := hx k v hv
      rw [hv]
      show Calls _ _ _ _ fun e w' => e = .returned (.bool (hasQ q v)) ∧ _
      have hS0 : Sv cb fb b (o + k * 11) (.int .i64 k) (.func (.func 68) #[] #[dp nb]) v w := ⟨h2, h3, hc.c0, hc.c1, hc.c2, hc.c3, hc.c4, hc.c5, hc.c6, hc.c7, hc.c8, hc.c9, hc.c10⟩
      have HT : Hid (∀ W, Below w.heap.size w W → Calls Tryz.prog 68 #[v.val, dp nb] W fun e w' => e = .returned (.bool (hasQ q v)) ∧ Below W.heap.size W w') := fun W hb => t2_any v (block_on h4 hb) (hM.on hb) (hz v (List.mem_of_getElem? hv))
      have hSx : Hid (∀ W, Below w.heap.size w W → Sv cb fb b (o + k * 11) (.int .i64 k) (.func (.func 68) #[] #[dp nb]) v W) := fun W hb => svB hS0 hb
      have HB0 : Hid (Below w.heap.size w w.drew) := (Below.refl _ _).drew
      generalize hasQ q v = r at *
      obtain ⟨vk, vn, vs, a0, a1, a2, a3, a4, a5, a6, a7, sm⟩ := v
      have k0 : (0 : Int) ≤ k := by omega
      have k1 : (k : Int) < row.length := by omega
      have kb : decide (k < row.length) = true := by simp; omega
      try dsimp only at HT hS0 hSx
      generalize row.length = n at *
      clear hv hc h4 hx h2 h3 h0 hk hM hz
      go_enter Tryz.func86, Tryz.ntmps86
      go_upto_region 1 with fail
      go_region_held3 (Sv cb fb b (o + k * 11) (.int .i64 k) (.func (.func 68) #[] #[dp nb]) ⟨vk, vn, vs, a0, a1, a2, a3, a4, a5, a6, a7, sm⟩) (((repeat (first | (with_reducible refine svD ?_))); (with_reducible assumption)))
        (first | (go_at_call 68; refine (HT.out _ HB0.out).mono ?_; rintro e w5 ⟨rfl, hb⟩; have HB5 := hid (HB0.out.trans (hb.mono HB0.out.size)); have hS5 := hSx.out _ HB5.out; clear hb))
      all_goals
        (go_wp2_with fail
         go_ret
         exact ⟨rfl, HB5.out⟩)
    · rw [List.getElem?_eq_none (by omega)]
      have k0 : (0 : Int) ≤ k := by omega
      have k1 : ¬ (k : Int) < row.length := by omega
      have kb : decide (k < row.length) = false := by simp; omega
      generalize row.length = n at *
      clear h4 hx h0 hk h3 hM hz
      go_enter Tryz.func86, Tryz.ntmps86
      go_upto_region 1 with fail
      go_quiet (fail)
      go_wp2_with fail
      go_ret
      exact ⟨rfl, below_drewN (Below.refl _ _) _⟩
  · rw [if_neg h0]
    have cb' : decide (0 ≤ c) = false := by simp; omega
    clear h4 hx h3 hM hz
    go_enter Tryz.func86, Tryz.ntmps86
    go_upto_region 1 with fail
    go_quiet (fail)
    go_wp2_with fail
    go_ret
    exact ⟨rfl, below_drewN (Below.refl _ _) _⟩
end Go.Proofs.YtcidijjbcebcbaaGreat.PD
namespace Go.Proofs.YtcidijjbcebcbaaGreat.PD
open Go.RowKit Go.Joins

abbrev S3' (b1 b2 b3 hd : Nat) (v1 v2 v3 : Value) (w : World) : Prop := w.cell? ⟨b1, 0, none⟩ = some v1 ∧ w.cell? ⟨b2, 0, none⟩ = some v2 ∧ w.cell? ⟨b3, 0, none⟩ = some v3 ∧ (b1 ≠ hd ∧ b2 ≠ hd ∧ b3 ≠ hd)
theorem s3B' {b1 b2 b3 hd : Nat} {v1 v2 v3 : Value} {w w' : World} (h : S3' b1 b2 b3 hd v1 v2 v3 w) (hb : Below w.heap.size w w') : S3' b1 b2 b3 hd v1 v2 v3 w' := by
  obtain ⟨h1, h2, h3, h4⟩ := h
  exact ⟨(hb.cell (p := ⟨b1, 0, none⟩) (block_lt_of_cell h1)).trans h1, (hb.cell (p := ⟨b2, 0, none⟩) (block_lt_of_cell h2)).trans h2, (hb.cell (p := ⟨b3, 0, none⟩) (block_lt_of_cell h3)).trans h3, h4⟩
theorem s3D' {b1 b2 b3 hd : Nat} {v1 v2 v3 : Value} {w : World} (h : S3' b1 b2 b3 hd v1 v2 v3 w) : S3' b1 b2 b3 hd v1 v2 v3 w.drew := h
theorem s3S' {b1 b2 b3 hd a : Nat} {v1 v2 v3 v : Value} {w : World} (h : S3' b1 b2 b3 hd v1 v2 v3 w) : S3' b1 b2 b3 hd v1 v2 v3 (w.setCell ⟨hd, a, none⟩ v) := by
  obtain ⟨h1, h2, h3, h4⟩ := h
  have k : Kp (fun k => k = hd) w (w.setCell ⟨hd, a, none⟩ v) := Kp.set (T := fun k => k = hd) rfl _
  exact ⟨k.cell h1 (fun e => h4.1 e), k.cell h2 (fun e => h4.2.1 e), k.cell h3 (fun e => h4.2.2 e), h4⟩
theorem Hd.frozen {w : World} {hd : Nat} {hs : List Bool} (h : Hd w hd hs) (a : Nat) : w.frozen? ⟨hd, a, none⟩ = false := block_frozen h a
def StP (hd : Nat) (hs : List Bool) (a : Nat) (r : Bool) (w : World) (e : Ending) (w' : World) : Prop := e = .returned (.tuple #[]) ∧ Hd w' hd (hs.set a r) ∧ Kp (fun k => k = hd) w w'
set_option maxRecDepth 100000 in
set_option maxHeartbeats 4000000 in
theorem c1_never {tb hvb ab hd a : Nat} {hs : List Bool} {w : World} {rv : Value} {r : Bool} (h1 : w.cell? ⟨tb, 0, none⟩ = some (.func (.func 46) #[] #[])) (h2 : w.cell? ⟨hvb, 0, none⟩ = some (slB hd hs.length)) (h3 : w.cell? ⟨ab, 0, none⟩ = some (.int .i64 (a : Int))) (hn : tb ≠ hd ∧ hvb ≠ hd ∧ ab ≠ hd) (hH : Hd w hd hs) (ha : a < hs.length) (hC : ∀ W, Below w.heap.size w W → Calls Tryz.prog 46 #[rv] W fun e w' => e = .returned (.bool r) ∧ Below W.heap.size W w') : Calls Tryz.prog 49 #[rv, dp tb, dp hvb, dp ab] w (StP hd hs a r w) := by
  have hS0 : S3' tb hvb ab hd (.func (.func 46) #[] #[]) (slB hd hs.length) (.int .i64 (a : Int)) w := ⟨h1, h2, h3, hn⟩
  have hSx : Hid (∀ W, Below w.heap.size w W → S3' tb hvb ab hd (.func (.func 46) #[] #[]) (slB hd hs.length) (.int .i64 (a : Int)) W) := fun W hb => s3B' hS0 hb
  have HC := hid hC
  have HB0 : Hid (Below w.heap.size w w.drew) := (Below.refl _ _).drew
  have ha' : (a : Int) < hs.length := by omega
  have ha0 : (0 : Int) ≤ a := by omega
  have HP : Hid (∀ W, Below w.heap.size w W → StP hd hs a r w (.returned (.tuple #[])) (W.setCell ⟨hd, a, none⟩ (.bool r))) := fun W hb => ⟨rfl, (hH.on hb).set a r, (Kp.of hb).trans (Kp.set (T := fun k => k = hd) rfl _)⟩
  have HCx : Hid (∀ W, Below w.heap.size w W → W.cell? ⟨hd, a, none⟩ = some (.bool (hsAt hs a))) := fun W hb => (hH.on hb).cell ha
  have HZx : Hid (∀ W, Below w.heap.size w W → W.frozen? ⟨hd, a, none⟩ = false) := fun W hb => (hH.on hb).frozen a
  generalize hs.length = n at *
  generalize hsAt hs a = u0 at *
  clear h1 h2 h3 hn hH ha hC
  go_enter Tryz.func49, Tryz.ntmps49
  go_region_held3 (S3' tb hvb ab hd (.func (.func 46) #[] #[]) (slB hd n) (.int .i64 (a : Int))) (((repeat (first | (with_reducible refine s3D' ?_) | (with_reducible refine s3S' ?_))); (with_reducible assumption)))
    (first | (go_at_call 46; refine (HC.out _ HB0.out).mono ?_; rintro e w5 ⟨rfl, hb⟩; have HB5 := hid (HB0.out.trans (hb.mono HB0.out.size)); have hS5 := hSx.out _ HB5.out; have c5 := HCx.out _ HB5.out; have z5 := HZx.out _ HB5.out; clear hb))
  all_goals
    (go_end0
     exact HP.out _ HB5.out)
set_option maxRecDepth 100000 in
set_option maxHeartbeats 4000000 in
theorem c1_of {tb hvb ab hd a : Nat} {hs : List Bool} {w : World} {rv : Value} {r : Bool} {c0 : Nat} {c1 : Nat} (h1 : w.cell? ⟨tb, 0, none⟩ = some (.func (.func 86) #[] #[dp c0, dp c1])) (h2 : w.cell? ⟨hvb, 0, none⟩ = some (slB hd hs.length)) (h3 : w.cell? ⟨ab, 0, none⟩ = some (.int .i64 (a : Int))) (hn : tb ≠ hd ∧ hvb ≠ hd ∧ ab ≠ hd) (hH : Hd w hd hs) (ha : a < hs.length) (hC : ∀ W, Below w.heap.size w W → Calls Tryz.prog 86 #[rv, dp c0, dp c1] W fun e w' => e = .returned (.bool r) ∧ Below W.heap.size W w') : Calls Tryz.prog 49 #[rv, dp tb, dp hvb, dp ab] w (StP hd hs a r w) := by
  have hS0 : S3' tb hvb ab hd (.func (.func 86) #[] #[dp c0, dp c1]) (slB hd hs.length) (.int .i64 (a : Int)) w := ⟨h1, h2, h3, hn⟩
  have hSx : Hid (∀ W, Below w.heap.size w W → S3' tb hvb ab hd (.func (.func 86) #[] #[dp c0, dp c1]) (slB hd hs.length) (.int .i64 (a : Int)) W) := fun W hb => s3B' hS0 hb
  have HC := hid hC
  have HB0 : Hid (Below w.heap.size w w.drew) := (Below.refl _ _).drew
  have ha' : (a : Int) < hs.length := by omega
  have ha0 : (0 : Int) ≤ a := by omega
  have HP : Hid (∀ W, Below w.heap.size w W → StP hd hs a r w (.returned (.tuple #[])) (W.setCell ⟨hd, a, none⟩ (.bool r))) := fun W hb => ⟨rfl, (hH.on hb).set a r, (Kp.of hb).trans (Kp.set (T := fun k => k = hd) rfl _)⟩
  have HCx : Hid (∀ W, Below w.heap.size w W → W.cell? ⟨hd, a, none⟩ = some (.bool (hsAt hs a))) := fun W hb => (hH.on hb).cell ha
  have HZx : Hid (∀ W, Below w.heap.size w W → W.frozen? ⟨hd, a, none⟩ = false) := fun W hb => (hH.on hb).frozen a
  generalize hs.length = n at *
  generalize hsAt hs a = u0 at *
  clear h1 h2 h3 hn hH ha hC
  go_enter Tryz.func49, Tryz.ntmps49
  go_region_held3 (S3' tb hvb ab hd (.func (.func 86) #[] #[dp c0, dp c1]) (slB hd n) (.int .i64 (a : Int))) (((repeat (first | (with_reducible refine s3D' ?_) | (with_reducible refine s3S' ?_))); (with_reducible assumption)))
    (first | (go_at_call 86; refine (HC.out _ HB0.out).mono ?_; rintro e w5 ⟨rfl, hb⟩; have HB5 := hid (HB0.out.trans (hb.mono HB0.out.size)); have hS5 := hSx.out _ HB5.out; have c5 := HCx.out _ HB5.out; have z5 := HZx.out _ HB5.out; clear hb))
  all_goals
    (go_end0
     exact HP.out _ HB5.out)
set_option maxRecDepth 100000 in
set_option maxHeartbeats 4000000 in
theorem c1_t3 {tb hvb ab hd a : Nat} {hs : List Bool} {w : World} {rv : Value} {r : Bool} {c0 : Nat} {c1 : Nat} (h1 : w.cell? ⟨tb, 0, none⟩ = some (.func (.func 70) #[] #[dp c0, dp c1])) (h2 : w.cell? ⟨hvb, 0, none⟩ = some (slB hd hs.length)) (h3 : w.cell? ⟨ab, 0, none⟩ = some (.int .i64 (a : Int))) (hn : tb ≠ hd ∧ hvb ≠ hd ∧ ab ≠ hd) (hH : Hd w hd hs) (ha : a < hs.length) (hC : ∀ W, Below w.heap.size w W → Calls Tryz.prog 70 #[rv, dp c0, dp c1] W fun e w' => e = .returned (.bool r) ∧ Below W.heap.size W w') : Calls Tryz.prog 49 #[rv, dp tb, dp hvb, dp ab] w (StP hd hs a r w) := by
  have hS0 : S3' tb hvb ab hd (.func (.func 70) #[] #[dp c0, dp c1]) (slB hd hs.length) (.int .i64 (a : Int)) w := ⟨h1, h2, h3, hn⟩
  have hSx : Hid (∀ W, Below w.heap.size w W → S3' tb hvb ab hd (.func (.func 70) #[] #[dp c0, dp c1]) (slB hd hs.length) (.int .i64 (a : Int)) W) := fun W hb => s3B' hS0 hb
  have HC := hid hC
  have HB0 : Hid (Below w.heap.size w w.drew) := (Below.refl _ _).drew
  have ha' : (a : Int) < hs.length := by omega
  have ha0 : (0 : Int) ≤ a := by omega
  have HP : Hid (∀ W, Below w.heap.size w W → StP hd hs a r w (.returned (.tuple #[])) (W.setCell ⟨hd, a, none⟩ (.bool r))) := fun W hb => ⟨rfl, (hH.on hb).set a r, (Kp.of hb).trans (Kp.set (T := fun k => k = hd) rfl _)⟩
  have HCx : Hid (∀ W, Below w.heap.size w W → W.cell? ⟨hd, a, none⟩ = some (.bool (hsAt hs a))) := fun W hb => (hH.on hb).cell ha
  have HZx : Hid (∀ W, Below w.heap.size w W → W.frozen? ⟨hd, a, none⟩ = false) := fun W hb => (hH.on hb).frozen a
  generalize hs.length = n at *
  generalize hsAt hs a = u0 at *
  clear h1 h2 h3 hn hH ha hC
  go_enter Tryz.func49, Tryz.ntmps49
  go_region_held3 (S3' tb hvb ab hd (.func (.func 70) #[] #[dp c0, dp c1]) (slB hd n) (.int .i64 (a : Int))) (((repeat (first | (with_reducible refine s3D' ?_) | (with_reducible refine s3S' ?_))); (with_reducible assumption)))
    (first | (go_at_call 70; refine (HC.out _ HB0.out).mono ?_; rintro e w5 ⟨rfl, hb⟩; have HB5 := hid (HB0.out.trans (hb.mono HB0.out.size)); have hS5 := hSx.out _ HB5.out; have c5 := HCx.out _ HB5.out; have z5 := HZx.out _ HB5.out; clear hb))
  all_goals
    (go_end0
     exact HP.out _ HB5.out)
set_option maxRecDepth 100000 in
set_option maxHeartbeats 4000000 in
theorem c1_t4 {tb hvb ab hd a : Nat} {hs : List Bool} {w : World} {rv : Value} {r : Bool} {c0 : Nat} {c1 : Nat} (h1 : w.cell? ⟨tb, 0, none⟩ = some (.func (.func 71) #[] #[dp c0, dp c1])) (h2 : w.cell? ⟨hvb, 0, none⟩ = some (slB hd hs.length)) (h3 : w.cell? ⟨ab, 0, none⟩ = some (.int .i64 (a : Int))) (hn : tb ≠ hd ∧ hvb ≠ hd ∧ ab ≠ hd) (hH : Hd w hd hs) (ha : a < hs.length) (hC : ∀ W, Below w.heap.size w W → Calls Tryz.prog 71 #[rv, dp c0, dp c1] W fun e w' => e = .returned (.bool r) ∧ Below W.heap.size W w') : Calls Tryz.prog 49 #[rv, dp tb, dp hvb, dp ab] w (StP hd hs a r w) := by
  have hS0 : S3' tb hvb ab hd (.func (.func 71) #[] #[dp c0, dp c1]) (slB hd hs.length) (.int .i64 (a : Int)) w := ⟨h1, h2, h3, hn⟩
  have hSx : Hid (∀ W, Below w.heap.size w W → S3' tb hvb ab hd (.func (.func 71) #[] #[dp c0, dp c1]) (slB hd hs.length) (.int .i64 (a : Int)) W) := fun W hb => s3B' hS0 hb
  have HC := hid hC
  have HB0 : Hid (Below w.heap.size w w.drew) := (Below.refl _ _).drew
  have ha' : (a : Int) < hs.length := by omega
  have ha0 : (0 : Int) ≤ a := by omega
  have HP : Hid (∀ W, Below w.heap.size w W → StP hd hs a r w (.returned (.tuple #[])) (W.setCell ⟨hd, a, none⟩ (.bool r))) := fun W hb => ⟨rfl, (hH.on hb).set a r, (Kp.of hb).trans (Kp.set (T := fun k => k = hd) rfl _)⟩
  have HCx : Hid (∀ W, Below w.heap.size w W → W.cell? ⟨hd, a, none⟩ = some (.bool (hsAt hs a))) := fun W hb => (hH.on hb).cell ha
  have HZx : Hid (∀ W, Below w.heap.size w W → W.frozen? ⟨hd, a, none⟩ = false) := fun W hb => (hH.on hb).frozen a
  generalize hs.length = n at *
  generalize hsAt hs a = u0 at *
  clear h1 h2 h3 hn hH ha hC
  go_enter Tryz.func49, Tryz.ntmps49
  go_region_held3 (S3' tb hvb ab hd (.func (.func 71) #[] #[dp c0, dp c1]) (slB hd n) (.int .i64 (a : Int))) (((repeat (first | (with_reducible refine s3D' ?_) | (with_reducible refine s3S' ?_))); (with_reducible assumption)))
    (first | (go_at_call 71; refine (HC.out _ HB0.out).mono ?_; rintro e w5 ⟨rfl, hb⟩; have HB5 := hid (HB0.out.trans (hb.mono HB0.out.size)); have hS5 := hSx.out _ HB5.out; have c5 := HCx.out _ HB5.out; have z5 := HZx.out _ HB5.out; clear hb))
  all_goals
    (go_end0
     exact HP.out _ HB5.out)
set_option maxRecDepth 100000 in
set_option maxHeartbeats 4000000 in
theorem c1_t5 {tb hvb ab hd a : Nat} {hs : List Bool} {w : World} {rv : Value} {r : Bool} {c0 : Nat} {c1 : Nat} (h1 : w.cell? ⟨tb, 0, none⟩ = some (.func (.func 72) #[] #[dp c0, dp c1])) (h2 : w.cell? ⟨hvb, 0, none⟩ = some (slB hd hs.length)) (h3 : w.cell? ⟨ab, 0, none⟩ = some (.int .i64 (a : Int))) (hn : tb ≠ hd ∧ hvb ≠ hd ∧ ab ≠ hd) (hH : Hd w hd hs) (ha : a < hs.length) (hC : ∀ W, Below w.heap.size w W → Calls Tryz.prog 72 #[rv, dp c0, dp c1] W fun e w' => e = .returned (.bool r) ∧ Below W.heap.size W w') : Calls Tryz.prog 49 #[rv, dp tb, dp hvb, dp ab] w (StP hd hs a r w) := by
  have hS0 : S3' tb hvb ab hd (.func (.func 72) #[] #[dp c0, dp c1]) (slB hd hs.length) (.int .i64 (a : Int)) w := ⟨h1, h2, h3, hn⟩
  have hSx : Hid (∀ W, Below w.heap.size w W → S3' tb hvb ab hd (.func (.func 72) #[] #[dp c0, dp c1]) (slB hd hs.length) (.int .i64 (a : Int)) W) := fun W hb => s3B' hS0 hb
  have HC := hid hC
  have HB0 : Hid (Below w.heap.size w w.drew) := (Below.refl _ _).drew
  have ha' : (a : Int) < hs.length := by omega
  have ha0 : (0 : Int) ≤ a := by omega
  have HP : Hid (∀ W, Below w.heap.size w W → StP hd hs a r w (.returned (.tuple #[])) (W.setCell ⟨hd, a, none⟩ (.bool r))) := fun W hb => ⟨rfl, (hH.on hb).set a r, (Kp.of hb).trans (Kp.set (T := fun k => k = hd) rfl _)⟩
  have HCx : Hid (∀ W, Below w.heap.size w W → W.cell? ⟨hd, a, none⟩ = some (.bool (hsAt hs a))) := fun W hb => (hH.on hb).cell ha
  have HZx : Hid (∀ W, Below w.heap.size w W → W.frozen? ⟨hd, a, none⟩ = false) := fun W hb => (hH.on hb).frozen a
  generalize hs.length = n at *
  generalize hsAt hs a = u0 at *
  clear h1 h2 h3 hn hH ha hC
  go_enter Tryz.func49, Tryz.ntmps49
  go_region_held3 (S3' tb hvb ab hd (.func (.func 72) #[] #[dp c0, dp c1]) (slB hd n) (.int .i64 (a : Int))) (((repeat (first | (with_reducible refine s3D' ?_) | (with_reducible refine s3S' ?_))); (with_reducible assumption)))
    (first | (go_at_call 72; refine (HC.out _ HB0.out).mono ?_; rintro e w5 ⟨rfl, hb⟩; have HB5 := hid (HB0.out.trans (hb.mono HB0.out.size)); have hS5 := hSx.out _ HB5.out; have c5 := HCx.out _ HB5.out; have z5 := HZx.out _ HB5.out; clear hb))
  all_goals
    (go_end0
     exact HP.out _ HB5.out)
theorem rowIn_at {hd : Nat} {w : World} {rv : Value} {row : TN.Rw} (h : TN.RowIn (fun b => b ≠ hd) w rv row) : TN.RowAt w rv row := h.at
/- A node's test, called: what it tells of a row is held at its place. -/
theorem step_any {tb hvb ab hd i : Nat} {cs : List TN.Cl} {q : Nx} {hs : List Bool} {w : World} {rv tv : Value} {row : TN.Rw} (ht : Tst hd hs.length cs q i w tv) (h1 : w.cell? ⟨tb, 0, none⟩ = some tv) (h2 : w.cell? ⟨hvb, 0, none⟩ = some (slB hd hs.length)) (h3 : w.cell? ⟨ab, 0, none⟩ = some (.int .i64 (i : Int))) (hn : tb ≠ hd ∧ hvb ≠ hd ∧ ab ≠ hd) (hH : Hd w hd hs) (hi : i < hs.length) (hr : TN.RowAt w rv row) (hM : Mx w) (hz : q.np.kind = 15 → Rsz row) : Calls Tryz.prog 49 #[rv, dp tb, dp hvb, dp ab] w (StP hd hs i (tst cs q i hs row) w) := by
  cases ht with
  | never h => exact c1_never h1 h2 h3 hn hH hi (fun W hb => (never_any rv W).mono (fun e w' ⟨e1, e2⟩ => by subst e2; rw [h]; exact ⟨e1, Below.refl _ _⟩))
  | cmp cb fb nb hk g2 g3 g4 =>
    have e : tst cs q i hs row = (match valAt cs row q.np.s with | some v => cmpQ q v | none => false) := by unfold tst; rw [if_pos hk]; rfl
    rw [e]
    exact c1_of h1 h2 h3 hn hH hi (fun W hb => of1_any (block_cell (block_on g2 hb) 0) (block_cell (block_on g3 hb) 0) (block_on g4 hb) (hr.on hb))
  | has cb fb nb hk g2 g3 g4 =>
    have e : tst cs q i hs row = (match valAt cs row q.np.s with | some v => hasQ q v | none => false) := by unfold tst; rw [if_neg (by omega), if_pos hk]; rfl
    rw [e]
    exact c1_of h1 h2 h3 hn hH hi (fun W hb => of2_any (block_cell (block_on g2 hb) 0) (block_cell (block_on g3 hb) 0) (block_on g4 hb) (hr.on hb) (hM.on hb) (hz hk))
  | not hb lb a hk g1 g2 g3 g4 g5 =>
    have e : tst cs q i hs row = !hsAt hs a := by unfold tst; rw [if_neg (by omega), if_neg (by omega), g5]; simp [hk]
    rw [e]
    exact c1_t3 h1 h2 h3 hn hH hi (fun W hW => t3_any rv (block_cell (block_on g2 hW) 0) (block_cell (block_on g3 hW) 0) (g4.on hW) (hH.on hW) g1)
  | and hb lb a b hk g1 g2 g3 g4 g5 =>
    have e : tst cs q i hs row = (hsAt hs a && hsAt hs b) := by unfold tst; rw [if_neg (by omega), if_neg (by omega), g5]; simp [hk]
    rw [e]
    exact c1_t4 h1 h2 h3 hn hH hi (fun W hW => t4_any rv (block_cell (block_on g2 hW) 0) (block_cell (block_on g3 hW) 0) (g4.on hW) (hH.on hW) g1.1 g1.2)
  | or hb lb a b hk g1 g2 g3 g4 g5 =>
    have e : tst cs q i hs row = (hsAt hs a || hsAt hs b) := by unfold tst; rw [if_neg (by omega), if_neg (by omega), g5]; simp [hk]
    rw [e]
    exact c1_t5 h1 h2 h3 hn hH hi (fun W hW => t5_any rv (block_cell (block_on g2 hW) 0) (block_cell (block_on g3 hW) 0) (g4.on hW) (hH.on hW) g1.1 g1.2)
end Go.Proofs.YtcidijjbcebcbaaGreat.PD
