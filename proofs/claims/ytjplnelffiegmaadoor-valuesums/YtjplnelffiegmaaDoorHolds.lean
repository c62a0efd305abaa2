/-
  What value.Holds returns, for every way and every two values.
-/
import Derived.Test.YtjplnelffiegmaaDoorCmp
namespace Go.Proofs.YtjplnelffiegmaaDoor
open Go.RowKit

def holdsB (how k k' c : Int) : Bool :=
  if k = k' then (if how = 1 then c == 0 else if how = 2 then c != 0 else if how = 3 then decide (c < 0) else if how = 4 then decide (c ≤ 0) else if how = 5 then decide (0 < c) else if how = 6 then decide (0 ≤ c) else false) else false

theorem ret_bool {a b : Bool} (h : a = b) : Ending.returned (.bool a) = .returned (.bool b) := by rw [h]

set_option maxHeartbeats 400000 in
theorem holds_any {how : Int} {k n : Int} {s : ByteArray} {a0 a1 a2 a3 a4 a5 a6 a7 : Int} {k' n' : Int} {s' : ByteArray} {b0 b1 b2 b3 b4 b5 b6 b7 : Int} {w : World} :
    Calls Tryd.prog 16 #[.int .i64 how, V k n s a0 a1 a2 a3 a4 a5 a6 a7, V k' n' s' b0 b1 b2 b3 b4 b5 b6 b7] w fun e w' => e = .returned (.bool (holdsB how k k' (cmpV k n s a0 a1 a2 a3 a4 a5 a6 a7 k' n' s' b0 b1 b2 b3 b4 b5 b6 b7))) ∧ Below w.heap.size w w' := by
  by_cases hk : k = k'
  · subst hk
    by_cases h1 : how = 1
    · subst h1
      go_enter Tryd.func16, Tryd.ntmps16
      go_wp2_with (go_at_call 14; refine compare_any.mono ?_; rintro e w' ⟨rfl, hb⟩)
      go_ret
      exact ⟨ret_bool (by simp [holdsB]), (((Below.refl _ _).alloc (Nat.le_refl _) _).alloc (by simp) _).trans (hb.mono (by go_size))⟩
    · by_cases h2 : how = 2
      · subst h2
        go_enter Tryd.func16, Tryd.ntmps16
        go_wp2_with (go_at_call 14; refine compare_any.mono ?_; rintro e w' ⟨rfl, hb⟩)
        go_ret
        exact ⟨ret_bool (by simp [holdsB]), (((Below.refl _ _).alloc (Nat.le_refl _) _).alloc (by simp) _).trans (hb.mono (by go_size))⟩
      · by_cases h3 : how = 3
        · subst h3
          go_enter Tryd.func16, Tryd.ntmps16
          go_wp2_with (go_at_call 14; refine compare_any.mono ?_; rintro e w' ⟨rfl, hb⟩)
          go_ret
          exact ⟨ret_bool (by simp [holdsB]), (((Below.refl _ _).alloc (Nat.le_refl _) _).alloc (by simp) _).trans (hb.mono (by go_size))⟩
        · by_cases h4 : how = 4
          · subst h4
            go_enter Tryd.func16, Tryd.ntmps16
            go_wp2_with (go_at_call 14; refine compare_any.mono ?_; rintro e w' ⟨rfl, hb⟩)
            go_ret
            exact ⟨ret_bool (by simp [holdsB]), (((Below.refl _ _).alloc (Nat.le_refl _) _).alloc (by simp) _).trans (hb.mono (by go_size))⟩
          · by_cases h5 : how = 5
            · subst h5
              go_enter Tryd.func16, Tryd.ntmps16
              go_wp2_with (go_at_call 14; refine compare_any.mono ?_; rintro e w' ⟨rfl, hb⟩)
              go_ret
              exact ⟨ret_bool (by simp [holdsB]), (((Below.refl _ _).alloc (Nat.le_refl _) _).alloc (by simp) _).trans (hb.mono (by go_size))⟩
            · by_cases h6 : how = 6
              · subst h6
                go_enter Tryd.func16, Tryd.ntmps16
                go_wp2_with (go_at_call 14; refine compare_any.mono ?_; rintro e w' ⟨rfl, hb⟩)
                go_ret
                exact ⟨ret_bool (by simp [holdsB]), (((Below.refl _ _).alloc (Nat.le_refl _) _).alloc (by simp) _).trans (hb.mono (by go_size))⟩
              · have h : holdsB how k k (cmpV k n s a0 a1 a2 a3 a4 a5 a6 a7 k n' s' b0 b1 b2 b3 b4 b5 b6 b7) = false := by simp [holdsB, h1, h2, h3, h4, h5, h6]
                rw [h]
                clear h
                have g1 : (how == 1) = false := by simpa using h1
                have g2 : (how == 2) = false := by simpa using h2
                have g3 : (how == 3) = false := by simpa using h3
                have g4 : (how == 4) = false := by simpa using h4
                have g5 : (how == 5) = false := by simpa using h5
                have g6 : (how == 6) = false := by simpa using h6
                clear h1 h2 h3 h4 h5 h6
                go_enter Tryd.func16, Tryd.ntmps16
                go_wp2_with (go_at_call 14; refine compare_any.mono ?_; rintro e w' ⟨rfl, hb⟩)
                go_ret
                exact ⟨rfl, (((Below.refl _ _).alloc (Nat.le_refl _) _).alloc (by simp) _).trans (hb.mono (by go_size))⟩
  · have h : holdsB how k k' (cmpV k n s a0 a1 a2 a3 a4 a5 a6 a7 k' n' s' b0 b1 b2 b3 b4 b5 b6 b7) = false := by simp [holdsB, hk]
    rw [h]
    have hk' : (k != k') = true := by simpa using hk
    go_enter Tryd.func16, Tryd.ntmps16
    go_wp2
    go_ret
    exact ⟨rfl, ((Below.refl _ _).alloc (Nat.le_refl _) _).alloc (by simp) _⟩
end Go.Proofs.YtjplnelffiegmaaDoor
