/-
  What hasBoth of package hints returns.
-/
import Derived.Test.YtmkilckoeaekkaaQHGet
namespace Go.Proofs.Ytmkilckoeaekkaa
open Go.RowKit Go.Sort Go.Maps Go.Shelf

def int1 (i : Int) : List Value := [.int .i64 i]
def twoB (l : List Int) (k : Nat) : Bool := match l with
  | [a, b] => decide (0 ≤ a) && decide (a < (k : Int)) && decide (0 ≤ b) && decide (b < (k : Int))
  | _ => false
theorem twoB_len {l : List Int} {k : Nat} (h : l.length ≠ 2) : twoB l k = false := by
  unfold twoB
  split
  · exact absurd rfl h
  · rfl
set_option maxHeartbeats 1000000 in
theorem both_any {Q : Nat → Prop} {w : World} {v : Value} {l : List Int} (h : SlAt Q int1 1 w v l) (k : Nat) : Calls Try.prog 34 #[v, .int .i64 (k : Int)] w fun e w' => e = .returned (.bool (twoB l k)) ∧ w' = w := by
  obtain ⟨p, c, rfl, h1, h2⟩ := h.form
  unfold maxLen at h2
  by_cases hl : l.length = 2
  · match l, hl with
    | [a, b], _ =>
      obtain ⟨g, o, rfl, _, c0⟩ := h.at (j := 0) rfl
      obtain ⟨g', o', e', _, c1⟩ := h.at (j := 1) rfl
      cases e'
      have d0 : w.cell? ⟨g, o, none⟩ = some (.int .i64 a) := by simpa using c0 0 _ rfl
      have d1 : w.cell? ⟨g, o + 1, none⟩ = some (.int .i64 b) := by simpa using c1 0 _ rfl
      have h1' : 2 ≤ c := h1
      show Calls Try.prog 34 #[.slice (some ⟨g, o, none⟩) 2 c, .int .i64 (k : Int)] w fun e w' => e = .returned (.bool (decide (0 ≤ a) && decide (a < (k : Int)) && decide (0 ≤ b) && decide (b < (k : Int)))) ∧ w' = w
      generalize hE : (decide (0 ≤ a) && decide (a < (k : Int)) && decide (0 ≤ b) && decide (b < (k : Int))) = t
      have HE := hid hE
      clear h c0 c1 h1 hE
      by_cases a0 : 0 ≤ a
      · by_cases a1 : a < (k : Int)
        · by_cases b0 : 0 ≤ b
          · by_cases b1 : b < (k : Int)
            · go_enter Try.func34, Try.ntmps34
              go_wp2
              go_ret
              exact ⟨ret_bool (by rw [← HE.out]; simp; omega), rfl⟩
            · go_enter Try.func34, Try.ntmps34
              go_wp2
              go_ret
              exact ⟨ret_bool (by rw [← HE.out]; simp; omega), rfl⟩
          · go_enter Try.func34, Try.ntmps34
            go_wp2
            go_ret
            exact ⟨ret_bool (by rw [← HE.out]; simp; omega), rfl⟩
        · go_enter Try.func34, Try.ntmps34
          go_wp2
          go_ret
          exact ⟨ret_bool (by rw [← HE.out]; simp; omega), rfl⟩
      · go_enter Try.func34, Try.ntmps34
        go_wp2
        go_ret
        exact ⟨ret_bool (by rw [← HE.out]; simp; omega), rfl⟩
  · rw [twoB_len hl]
    generalize l.length = n at *
    have hI : ¬ (n : Int) = 2 := by omega
    clear h
    go_enter Try.func34, Try.ntmps34
    go_wp2
    go_ret
    exact ⟨rfl, rfl⟩
theorem both_is {Q : Nat → Prop} {w : World} {v : Value} {l : List Int} {t : Bool} (h : SlAt Q int1 1 w v l) {k : Nat} (ht : twoB l k = t) : Calls Try.prog 34 #[v, .int .i64 (k : Int)] w fun e w' => e = .returned (.bool t) ∧ w' = w := by rw [← ht]; exact both_any h k
end Go.Proofs.Ytmkilckoeaekkaa
