/-
  What the statements' vals returns, for any two rows of values.
-/
import Derived.Test.YtkjbnanjlcdgjaaQRange
namespace Go.Proofs.Ytkjbnanjlcdgjaa
open Go.RowKit Go.Sort Go.Shelf

theorem eqlL (x y : Vl) (w : World) : (Op.equalIn 10000 36 x.val y.val).run Try.prog w = .ok (eqL x y) w := eql24 ..
theorem rows_eqK {r q : Rw} {n : Nat} (h1 : List.length r = n) (h2 : List.length q = n) (h : ∀ j, j < n → r[j]? = q[j]?) : r = q := by
  apply List.ext_getElem?
  intro j
  by_cases hj : j < n
  · exact h j hj
  · rw [List.getElem?_eq_none (by omega), List.getElem?_eq_none (by omega)]
set_option maxRecDepth 100000 in
set_option maxHeartbeats 1000000 in
theorem vals_any {u v : Value} {r q : Rw} {w : World} (hu : RowAt w u r) (hv : RowAt w v q) :
    Calls Try.prog 13 #[u, v] w fun e w' => e = .returned (.bool (decide (r = q))) ∧ Below w.heap.size w w' := by
  obtain ⟨p, cap, rfl, hcap, hmax, hx⟩ := hu
  obtain ⟨p', cap', rfl, hcap', hmax', hx'⟩ := hv
  unfold maxLen at hmax hmax'
  have HX := hid hx
  have HX' := hid hx'
  clear hx hx' hcap hcap'
  generalize hn : List.length r = n at *
  generalize hn' : List.length q = m at *
  have HN := hid hn
  have HN' := hid hn'
  clear hn hn'
  by_cases hl : n = m
  · subst hl
    go_enter Try.func13, Try.ntmps13
    go_wp2
    go_loopw [5] (fun i wr => ∃ k : Nat, k ≤ n ∧ i = .int .i64 k ∧ Hid (Below w.heap.size w wr) ∧ Hid (∀ j, j < k → r[j]? = q[j]?)) (fun i _ => n - (intOf i).toNat)
    case atStart => exact ⟨0, by omega, rfl, Below.refl _ _, fun j h => absurd h (Nat.not_lt_zero _)⟩
    case round =>
      obtain ⟨k, hk, rfl, HB, HA⟩ := hrel
      by_cases hlt : k < n
      · have hkr : k < List.length r := by rw [HN.out]; exact hlt
        have hkq : k < List.length q := by rw [HN'.out]; exact hlt
        obtain ⟨x, hxk⟩ : ∃ x, r[k]? = some x := ⟨r[k], List.getElem?_eq_getElem hkr⟩
        obtain ⟨y, hyk⟩ : ∃ y, q[k]? = some y := ⟨q[k], List.getElem?_eq_getElem hkq⟩
        obtain ⟨b, o, rfl, -, hj⟩ := HX.out (by intro e; subst e; simp at hkr)
        obtain ⟨b', o', rfl, -, hj'⟩ := HX'.out (by intro e; subst e; simp at hkq)
        obtain ⟨c0, c1, c2, c3, c4, c5, c6, c7, c8, c9, c10⟩ := val_cells ((hj k x hxk).on HB.out)
        obtain ⟨d0, d1, d2, d3, d4, d5, d6, d7, d8, d9, d10⟩ := val_cells ((hj' k y hyk).on HB.out)
        have HXK := hid hxk
        have HYK := hid hyk
        clear hxk hyk hj hj'
        have he := eqlL x y
        cases hxy : eqL x y with
        | true =>
          rw [hxy] at he
          have HE := hid ((eqL_iff x y).1 hxy)
          clear hxy
          go_wp2_with fail
          go_quiet (fail)
          go_wp2
          go_roundw
          case rel =>
            refine ⟨k + 1, by omega, by go_num, ?_, fun j hj => ?_⟩
            · exact below_drewN HB.out _
            · by_cases e : j = k
              · subst e; rw [HXK.out, HYK.out, HE.out]
              · exact HA.out j (by omega)
          case measure => simp [intOf]; omega
        | false =>
          rw [hxy] at he
          have HE := hid (show ¬ x = y from fun e => by rw [(eqL_iff x y).2 e] at hxy; cases hxy)
          clear hxy
          go_wp2_with fail
          go_quiet (fail)
          go_wp2
          go_ret
          exact ⟨ret_bool (decide_eq_false (fun e => HE.out (by have h1 := HXK.out; rw [e, HYK.out] at h1; exact (Option.some.inj h1).symm))).symm, below_drewN HB.out _⟩
      · have hks : k = n := by omega
        subst hks
        go_wp2
        go_ret
        exact ⟨ret_bool (decide_eq_true (rows_eqK HN.out HN'.out HA.out)).symm, HB.out⟩
  · have hne : ((n : Int) != (m : Int)) = true := by simp; omega
    go_enter Try.func13, Try.ntmps13
    go_wp2
    go_ret
    exact ⟨ret_bool (decide_eq_false (fun e => hl (by rw [← HN.out, ← HN'.out, e]))).symm, Below.refl _ _⟩
theorem row_vals {w : World} {p : Option Addr} {n c : Nat} {r : Rw} {j : Nat} {x : Vl} (h : RowAt w (.slice p n c) r) (hj : r[j]? = some x) : ∃ g o, p = some ⟨g, o, none⟩ ∧ ValCells w g (o + j * 11) x := by
  obtain ⟨p', c', hv, -, -, hx⟩ := h
  have hlt := (List.getElem?_eq_some_iff.1 hj).1
  obtain ⟨g, o, hp, -, hc⟩ := hx (by intro e; subst e; simp at hlt)
  injection hv with h1
  exact ⟨g, o, h1.trans hp, val_cells (hc j x hj)⟩
end Go.Proofs.Ytkjbnanjlcdgjaa
