/-
  What table.Name and the reference's Name return, for every text.
-/
import Derived.Test.YtoadamimfhjoiaaTab
namespace Go.Proofs.Ytoadamimfhjoiaa
open Go.RowKit Go.Sort

def letB (c : UInt8) : Bool := decide (97 ≤ c.toNat) && decide (c.toNat ≤ 122)
def nmB (c : UInt8) : Bool := letB c || (decide (48 ≤ c.toNat) && decide (c.toNat ≤ 57)) || decide (c.toNat = 95) || decide (c.toNat = 35)
def nameB (s : ByteArray) : Bool := decide (1 ≤ s.size ∧ s.size ≤ 24) && (letB (s.data.getD 0 0) && s.data.toList.all nmB)

set_option maxHeartbeats 400000 in
theorem isLetter_any {c : UInt8} {w : World} :
    Calls Try.prog 31 #[.int .u8 (c.toNat : Int)] w fun e w' => e = .returned (.bool (letB c)) ∧ w' = w := by
  generalize hr : letB c = r
  have HR := hid hr
  clear hr
  go_enter Try.func31, Try.ntmps31
  go_wp2
  all_goals
    go_ret
    refine ⟨ret_bool ?_, rfl⟩
    rw [← HR.out]
    unfold letB
    rw [Bool.eq_iff_iff]
    simp only [Bool.and_eq_true, decide_eq_true_eq, Bool.false_eq_true, false_iff]
    omega
theorem nmB_is {c : UInt8} {r : Bool} (h : (letB c || (decide (48 ≤ c.toNat) && decide (c.toNat ≤ 57)) || decide (c.toNat = 95) || decide (c.toNat = 35)) = r) : nmB c = r := h
set_option maxHeartbeats 400000 in
theorem isNameByte_any {c : UInt8} {w : World} :
    Calls Try.prog 32 #[.int .u8 (c.toNat : Int)] w fun e w' => e = .returned (.bool (nmB c)) ∧ w' = w := by
  generalize hr : nmB c = r
  have HR := hid hr
  clear hr
  go_enter Try.func32, Try.ntmps32
  go_wp2_with (go_at_call 31; refine isLetter_any.mono ?_; rintro e w' ⟨rfl, rfl⟩)
  all_goals
    go_ret
    refine ⟨ret_bool ?_, rfl⟩
    rw [← HR.out]
    unfold nmB
    rw [Bool.eq_iff_iff]
    simp only [Bool.or_eq_true, Bool.and_eq_true, decide_eq_true_eq, true_iff, beq_iff_eq]
    first | omega | (simp [*]; done) | (simp [*]; omega)
theorem all_upto {s : ByteArray} : s.data.toList.all nmB = true ↔ ∀ i (h : i < s.size), nmB s[i] = true := by
  rw [List.all_eq_true]
  constructor
  · intro h i hi
    exact h _ (Array.mem_toList_iff.2 (Array.getElem_mem (by exact hi)))
  · intro h c hc
    obtain ⟨i, hi, rfl⟩ := List.mem_iff_getElem.1 hc
    exact h i (by simpa using hi)
theorem nameB_first {s : ByteArray} (h : 0 < s.size) : s.data.getD 0 0 = s[0] := by
  have h' : 0 < s.data.size := h
  rw [← Array.getElem_eq_getD (h := h')]; rfl
theorem name_no {s : ByteArray} (h : ¬ (1 ≤ s.size ∧ s.size ≤ 24)) : nameB s = false := by simp [nameB, h]
theorem name_first {s : ByteArray} (h : 0 < s.size) (hl : letB s[0] = false) : nameB s = false := by simp [nameB, nameB_first h, hl]
theorem name_byte {s : ByteArray} {i : Nat} (h : i < s.size) (hl : nmB s[i] = false) : nameB s = false := by
  unfold nameB
  have : s.data.toList.all nmB = false := by
    rw [Bool.eq_false_iff]; intro hh; rw [all_upto] at hh; rw [hh i h] at hl; cases hl
  rw [this]; simp
theorem name_yes {s : ByteArray} (h : 1 ≤ s.size ∧ s.size ≤ 24) (hl : letB s[0] = true) (ha : ∀ i (h : i < s.size), nmB s[i] = true) : nameB s = true := by
  unfold nameB
  rw [nameB_first h.1, hl, all_upto.2 ha]; simp [h]
set_option maxHeartbeats 400000 in
theorem name_any {s : ByteArray} {w : World} (hs : s.size ≤ maxLen) :
    Calls Try.prog 13 #[.string s] w fun e w' => e = .returned (.bool (nameB s)) ∧ w' = w := by
  unfold maxLen at hs
  generalize hr : nameB s = r
  have HR := hid hr
  clear hr
  by_cases h1 : s.size < 1
  · have g1 : (s.size : Int) < 1 := by omega
    go_enter Try.func13, Try.ntmps13
    go_wp2
    go_ret
    exact ⟨ret_bool ((name_no (by omega)).symm.trans HR.out), rfl⟩
  · have g1 : ¬ (s.size : Int) < 1 := by omega
    by_cases h2 : 24 < s.size
    · have g2 : (24 : Int) < (s.size : Int) := by omega
      go_enter Try.func13, Try.ntmps13
      go_wp2
      go_ret
      exact ⟨ret_bool ((name_no (by omega)).symm.trans HR.out), rfl⟩
    · have g2 : ¬ (24 : Int) < (s.size : Int) := by omega
      have h0 : 0 < s.size := by omega
      cases hl : letB s[0] with
      | false =>
        go_enter Try.func13, Try.ntmps13
        go_wp2_with (go_at_call 31; refine isLetter_any.mono ?_; rintro e w' ⟨rfl, rfl⟩)
        go_ret
        exact ⟨ret_bool ((name_first (by omega) hl).symm.trans HR.out), rfl⟩
      | true =>
        go_enter Try.func13, Try.ntmps13
        go_wp2_with (go_at_call 31; refine isLetter_any.mono ?_; rintro e w' ⟨rfl, rfl⟩)
        go_loopw [20] (fun i wr => ∃ k : Nat, k ≤ s.size ∧ i = .int .i64 k ∧ wr = w' ∧ Hid (∀ i (h : i < s.size), i < k → nmB s[i] = true)) (fun i _ => s.size - (intOf i).toNat)
        case atStart => exact ⟨0, by omega, rfl, rfl, fun i _ h => absurd h (Nat.not_lt_zero _)⟩
        case round =>
          obtain ⟨k, hk, rfl, rfl, HA⟩ := hrel
          by_cases hlt : k < s.size
          · cases hb : nmB s[k] with
            | true =>
              go_wp2_with (go_at_call 32; refine isNameByte_any.mono ?_; rintro e w' ⟨rfl, rfl⟩)
              go_roundw
              case rel =>
                refine ⟨k + 1, by omega, by go_num, by trivial, fun i h hi => ?_⟩
                by_cases e : i = k
                · subst e; exact hb
                · exact HA.out i h (by omega)
              case measure => simp [intOf]; omega
            | false =>
              go_wp2_with (go_at_call 32; refine isNameByte_any.mono ?_; rintro e w' ⟨rfl, rfl⟩)
              go_ret
              exact ⟨ret_bool ((name_byte hlt hb).symm.trans HR.out), rfl⟩
          · have hks : k = s.size := by omega
            subst hks
            go_wp2
            go_ret
            exact ⟨ret_bool ((name_yes (by omega) hl (fun i h => HA.out i h h)).symm.trans HR.out), rfl⟩
set_option maxHeartbeats 400000 in
theorem rname_any {s : ByteArray} {w : World} (hs : s.size ≤ maxLen) :
    Calls Try.prog 14 #[.string s] w fun e w' => e = .returned (.bool (nameB s)) ∧ w' = w := by
  unfold maxLen at hs
  generalize hr : nameB s = r
  have HR := hid hr
  clear hr
  by_cases h1 : s.size < 1
  · have g1 : (s.size : Int) < 1 := by omega
    go_enter Try.func14, Try.ntmps14
    go_wp2
    go_ret
    exact ⟨ret_bool ((name_no (by omega)).symm.trans HR.out), rfl⟩
  · have g1 : ¬ (s.size : Int) < 1 := by omega
    by_cases h2 : 24 < s.size
    · have g2 : (24 : Int) < (s.size : Int) := by omega
      go_enter Try.func14, Try.ntmps14
      go_wp2
      go_ret
      exact ⟨ret_bool ((name_no (by omega)).symm.trans HR.out), rfl⟩
    · have g2 : ¬ (24 : Int) < (s.size : Int) := by omega
      have h0 : 0 < s.size := by omega
      cases hl : letB s[0] with
      | false =>
        have hl' := hl
        unfold letB at hl'
        have hlow : (s[0].toNat : Int) < 97 ∨ (¬ (s[0].toNat : Int) < 97 ∧ (122 : Int) < (s[0].toNat : Int)) := by simp at hl'; omega
        clear hl'
        have HL := hid hl
        clear hl
        rcases hlow with h3 | ⟨h3, h4⟩
        all_goals
          go_enter Try.func14, Try.ntmps14
          go_wp2
          go_ret
          exact ⟨ret_bool ((name_first (by omega) HL.out).symm.trans HR.out), rfl⟩
      | true =>
        have hl' := hl
        unfold letB at hl'
        have h3 : ¬ (s[0].toNat : Int) < 97 := by simp at hl'; omega
        have h4 : ¬ (122 : Int) < (s[0].toNat : Int) := by simp at hl'; omega
        clear hl'
        have HL := hid hl
        clear hl
        go_enter Try.func14, Try.ntmps14
        go_wp2
        go_loopw [3] (fun i wr => ∃ k : Nat, k ≤ s.size ∧ i = .int .i64 k ∧ wr = w ∧ Hid (∀ i (h : i < s.size), i < k → nmB s[i] = true)) (fun i _ => s.size - (intOf i).toNat)
        case atStart => exact ⟨0, by omega, rfl, rfl, fun i _ h => absurd h (Nat.not_lt_zero _)⟩
        case round =>
          obtain ⟨k, hk, rfl, rfl, HA⟩ := hrel
          by_cases hlt : k < s.size
          · cases hb : nmB s[k] with
            | true =>
              have hb' := hb
              unfold nmB letB at hb'
              simp only [Bool.or_eq_true, Bool.and_eq_true, decide_eq_true_eq] at hb'
              have HB := hid hb
              clear hb
              have hq : ((97 : Int) ≤ (s[k].toNat : Int) ∧ (s[k].toNat : Int) ≤ 122) ∨ ((s[k].toNat : Int) < 97 ∧ (48 : Int) ≤ (s[k].toNat : Int) ∧ (s[k].toNat : Int) ≤ 57) ∨ (s[k].toNat : Int) = 95 ∨ (s[k].toNat : Int) = 35 := by omega
              clear hb'
              rcases hq with ⟨q1, q2⟩ | ⟨q1, q2, q3⟩ | q1 | q1
              all_goals
                go_wp2
                go_roundw
                case rel =>
                  refine ⟨k + 1, by omega, by go_num, by trivial, fun i h hi => ?_⟩
                  by_cases e : i = k
                  · subst e; exact HB.out
                  · exact HA.out i h (by omega)
                case measure => simp [intOf]; omega
            | false =>
              have hb' := hb
              unfold nmB letB at hb'
              simp only [Bool.or_eq_false_iff, Bool.and_eq_false_iff, decide_eq_false_iff_not] at hb'
              have HB := hid hb
              clear hb
              have q5 : ((s[k].toNat : Int) == 95) = false := by rw [Bool.eq_false_iff]; intro e; have := beq_iff_eq.1 e; omega
              have q6 : ((s[k].toNat : Int) == 35) = false := by rw [Bool.eq_false_iff]; intro e; have := beq_iff_eq.1 e; omega
              have hq : (decide ((s[k].toNat : Int) ≤ 122) = false ∧ decide ((s[k].toNat : Int) ≤ 57) = false ∧ decide ((97 : Int) ≤ (s[k].toNat : Int)) = true ∧ decide ((48 : Int) ≤ (s[k].toNat : Int)) = true) ∨ (decide ((97 : Int) ≤ (s[k].toNat : Int)) = false ∧ decide ((48 : Int) ≤ (s[k].toNat : Int)) = true ∧ decide ((s[k].toNat : Int) ≤ 57) = false) ∨ (decide ((97 : Int) ≤ (s[k].toNat : Int)) = false ∧ decide ((48 : Int) ≤ (s[k].toNat : Int)) = false) := by simp only [decide_eq_false_iff_not, decide_eq_true_eq]; omega
              clear hb'
              rcases hq with ⟨q1, q2, q3, q4⟩ | ⟨q1, q2, q3⟩ | ⟨q1, q2⟩
              all_goals
                go_wp2
                go_ret
                exact ⟨ret_bool ((name_byte hlt HB.out).symm.trans HR.out), rfl⟩
          · have hks : k = s.size := by omega
            subst hks
            go_wp2
            go_ret
            exact ⟨ret_bool ((name_yes (by omega) HL.out (fun i h => HA.out i h h)).symm.trans HR.out), rfl⟩
end Go.Proofs.Ytoadamimfhjoiaa
