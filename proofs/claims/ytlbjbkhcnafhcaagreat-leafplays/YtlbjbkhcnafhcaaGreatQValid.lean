/-
  What value.Valid returns, for every value.
-/
import Derived.Test.YtlbjbkhcnafhcaaGreatQBase
namespace Go.Proofs.YtlbjbkhcnafhcaaGreat
open Go.RowKit

def zeroH (a0 a1 a2 a3 a4 a5 a6 a7 : Int) : Bool := eqH a0 a1 a2 a3 a4 a5 a6 a7 0 0 0 0 0 0 0 0
def noText : ByteArray := ⟨#[]⟩
def validB (k n : Int) (s : ByteArray) (a0 a1 a2 a3 a4 a5 a6 a7 : Int) : Bool :=
  if k = 1 then decide (s = noText) && zeroH a0 a1 a2 a3 a4 a5 a6 a7
  else if k = 2 then decide (n = 0) && (zeroH a0 a1 a2 a3 a4 a5 a6 a7 && decide (s.size ≤ 64))
  else if k = 3 then decide (n = 0 ∨ n = 1) && (decide (s = noText) && zeroH a0 a1 a2 a3 a4 a5 a6 a7)
  else if k = 4 then decide (n = 0) && decide (s = noText)
  else false

theorem cut64_eq_iff (s : ByteArray) : s = cut64 s ↔ s.size ≤ 64 := by
  constructor
  · intro h
    rw [h]; unfold cut64
    rw [ByteArray.size_extract]; omega
  · intro h; exact (cut64_short h).symm
theorem eqH_self (a0 a1 a2 a3 a4 a5 a6 a7 : Int) : eqH a0 a1 a2 a3 a4 a5 a6 a7 a0 a1 a2 a3 a4 a5 a6 a7 = true := by simp [eqH]

set_option maxHeartbeats 400000 in
theorem valid_1 (n : Int) (s : ByteArray) (a0 a1 a2 a3 a4 a5 a6 a7 : Int) (w : World) :
    Calls Tryz.prog 77 #[V 1 n s a0 a1 a2 a3 a4 a5 a6 a7] w fun e w' => e = .returned (.bool (eqV 1 n s a0 a1 a2 a3 a4 a5 a6 a7 1 n ⟨#[]⟩ 0 0 0 0 0 0 0 0)) ∧ Below w.heap.size w w' := by
  have he := @eql24
  go_enter Tryz.func77, Tryz.ntmps77
  go_wp2_with fail
  go_region_with (first | (go_at_call 100; refine ofInt_any.mono ?_; rintro e w' ⟨rfl, hb⟩; obtain ⟨hc, hf⟩ := bcell hb))
  all_goals
    go_wp2
    go_ret
    exact ⟨rfl, ((Below.refl _ _).alloc (Nat.le_refl _) _).drew.trans (hb.mono (by simp))⟩
set_option maxHeartbeats 400000 in
theorem valid_2 (n : Int) (s : ByteArray) (a0 a1 a2 a3 a4 a5 a6 a7 : Int) (w : World) :
    Calls Tryz.prog 77 #[V 2 n s a0 a1 a2 a3 a4 a5 a6 a7] w fun e w' => e = .returned (.bool (eqV 2 n s a0 a1 a2 a3 a4 a5 a6 a7 2 0 (cut64 s) 0 0 0 0 0 0 0 0)) ∧ Below w.heap.size w w' := by
  have he := @eql24
  go_enter Tryz.func77, Tryz.ntmps77
  go_wp2_with fail
  go_region_with (first | (go_at_call 101; refine ofStr_any.mono ?_; rintro e w' ⟨rfl, hb⟩; obtain ⟨hc, hf⟩ := bcell hb))
  all_goals
    go_wp2
    go_ret
    exact ⟨rfl, ((Below.refl _ _).alloc (Nat.le_refl _) _).drew.trans (hb.mono (by simp))⟩
set_option maxHeartbeats 400000 in
theorem valid_3 (n : Int) (s : ByteArray) (a0 a1 a2 a3 a4 a5 a6 a7 : Int) (w : World) :
    Calls Tryz.prog 77 #[V 3 n s a0 a1 a2 a3 a4 a5 a6 a7] w fun e w' => e = .returned (.bool (eqV 3 n s a0 a1 a2 a3 a4 a5 a6 a7 3 (b2i (n == 1)) ⟨#[]⟩ 0 0 0 0 0 0 0 0)) ∧ Below w.heap.size w w' := by
  have he := @eql24
  go_enter Tryz.func77, Tryz.ntmps77
  go_wp2_with fail
  go_region_with (first | (go_at_call 102; refine ofBool_any.mono ?_; rintro e w' ⟨rfl, hb⟩; obtain ⟨hc, hf⟩ := bcell hb))
  all_goals
    go_wp2
    go_ret
    exact ⟨rfl, ((Below.refl _ _).alloc (Nat.le_refl _) _).drew.trans (hb.mono (by simp))⟩
set_option maxHeartbeats 400000 in
theorem valid_4 (n : Int) (s : ByteArray) (a0 a1 a2 a3 a4 a5 a6 a7 : Int) (w : World) :
    Calls Tryz.prog 77 #[V 4 n s a0 a1 a2 a3 a4 a5 a6 a7] w fun e w' => e = .returned (.bool (eqV 4 n s a0 a1 a2 a3 a4 a5 a6 a7 4 0 ⟨#[]⟩ a0 a1 a2 a3 a4 a5 a6 a7)) ∧ Below w.heap.size w w' := by
  have he := @eql24
  go_enter Tryz.func77, Tryz.ntmps77
  go_wp2_with fail
  go_region_with (first | (go_at_call 103; refine ofBuckets_any.mono ?_; rintro e w' ⟨rfl, hb⟩; obtain ⟨hc, hf⟩ := bcell hb))
  all_goals
    go_wp2
    go_ret
    exact ⟨rfl, ((Below.refl _ _).alloc (Nat.le_refl _) _).drew.trans (hb.mono (by simp))⟩

set_option maxHeartbeats 400000 in
theorem valid_0 (k n : Int) (s : ByteArray) (a0 a1 a2 a3 a4 a5 a6 a7 : Int) (w : World) (h1 : (k == 1) = false) (h2 : (k == 2) = false) (h3 : (k == 3) = false) (h4 : (k == 4) = false) :
    Calls Tryz.prog 77 #[V k n s a0 a1 a2 a3 a4 a5 a6 a7] w fun e w' => e = .returned (.bool false) ∧ Below w.heap.size w w' := by
  go_enter Tryz.func77, Tryz.ntmps77
  go_wp2
  go_ret
  exact ⟨rfl, (Below.refl _ _).alloc (Nat.le_refl _) _⟩
theorem valid_any {k n : Int} {s : ByteArray} {a0 a1 a2 a3 a4 a5 a6 a7 : Int} {w : World} :
    Calls Tryz.prog 77 #[V k n s a0 a1 a2 a3 a4 a5 a6 a7] w fun e w' => e = .returned (.bool (validB k n s a0 a1 a2 a3 a4 a5 a6 a7)) ∧ Below w.heap.size w w' := by
  by_cases h1 : k = 1
  · subst h1
    have h : validB 1 n s a0 a1 a2 a3 a4 a5 a6 a7 = eqV 1 n s a0 a1 a2 a3 a4 a5 a6 a7 1 n ⟨#[]⟩ 0 0 0 0 0 0 0 0 := by
      by_cases hs : s = ⟨#[]⟩ <;> simp [validB, eqV, zeroH, noText, hs]
    rw [h]; exact valid_1 _ _ _ _ _ _ _ _ _ _ _
  · by_cases h2 : k = 2
    · subst h2
      have h : validB 2 n s a0 a1 a2 a3 a4 a5 a6 a7 = eqV 2 n s a0 a1 a2 a3 a4 a5 a6 a7 2 0 (cut64 s) 0 0 0 0 0 0 0 0 := by
        have := cut64_eq_iff s
        by_cases hs : s.size ≤ 64 <;> simp [validB, eqV, zeroH, this, hs]
      rw [h]; exact valid_2 _ _ _ _ _ _ _ _ _ _ _
    · by_cases h3 : k = 3
      · subst h3
        have h : validB 3 n s a0 a1 a2 a3 a4 a5 a6 a7 = eqV 3 n s a0 a1 a2 a3 a4 a5 a6 a7 3 (b2i (n == 1)) ⟨#[]⟩ 0 0 0 0 0 0 0 0 := by
          by_cases hs : s = ⟨#[]⟩
          · by_cases hn : n = 1
            · simp [validB, eqV, zeroH, noText, hn, hs, b2i]
            · simp [validB, eqV, zeroH, noText, hn, hs, b2i]
          · simp [validB, eqV, zeroH, noText, hs]
        rw [h]; exact valid_3 _ _ _ _ _ _ _ _ _ _ _
      · by_cases h4 : k = 4
        · subst h4
          have h : validB 4 n s a0 a1 a2 a3 a4 a5 a6 a7 = eqV 4 n s a0 a1 a2 a3 a4 a5 a6 a7 4 0 ⟨#[]⟩ a0 a1 a2 a3 a4 a5 a6 a7 := by
            by_cases hs : s = ⟨#[]⟩ <;> simp [validB, eqV, noText, eqH_self, hs]
          rw [h]; exact valid_4 _ _ _ _ _ _ _ _ _ _ _
        · have h : validB k n s a0 a1 a2 a3 a4 a5 a6 a7 = false := by simp [validB, h1, h2, h3, h4]
          rw [h]; exact valid_0 _ _ _ _ _ _ _ _ _ _ _ _ (by simpa using h1) (by simpa using h2) (by simpa using h3) (by simpa using h4)
end Go.Proofs.YtlbjbkhcnafhcaaGreat
