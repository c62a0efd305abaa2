/-
  The values' cells written out, what Go's comparison of two such values answers, and what OfInt, OfStr, OfBool and ofBuckets of package value return: for every input, with nothing older in memory turned.
  What value.Valid returns, for every value.
  What value.Compare, and what it calls, return, for every two values.
  The order of values: one of three answers, its opposite the other way round, nought just for the same value, and what stands ahead of what stands ahead does so itself.
  Blocks of memory, as the walks carry them: what a block holds, what a call that turns nothing older leaves.
-/
import Derived.Test.YtjekpclbedbaoaaProg
import Derived.KernelRfl
import Derived.WalkKit
import Derived.WalkSpells
import Derived.WalkLawsBesides
import Derived.Deep.RegionWith
import Derived.BigQuiet
import Derived.ChangeKeysEq
import Derived.Handy
import Derived.Deep.DeepCutAuto
import Derived.Deep.Light
import Derived.Lib.QuietBelow
namespace Go.Proofs.Ytjekpclbedbaoaa.TN
open Go.RowKit

/- A value's eleven cells, written out; its buckets' eight. -/
abbrev V (k n : Int) (s : ByteArray) (a0 a1 a2 a3 a4 a5 a6 a7 : Int) : Value := .agg #[.int .i64 k, .int .i64 n, .string s, .int .i64 a0, .int .i64 a1, .int .i64 a2, .int .i64 a3, .int .i64 a4, .int .i64 a5, .int .i64 a6, .int .i64 a7]
abbrev H8 (a0 a1 a2 a3 a4 a5 a6 a7 : Int) : Value := .agg #[.int .i64 a0, .int .i64 a1, .int .i64 a2, .int .i64 a3, .int .i64 a4, .int .i64 a5, .int .i64 a6, .int .i64 a7]

def eqH (a0 a1 a2 a3 a4 a5 a6 a7 b0 b1 b2 b3 b4 b5 b6 b7 : Int) : Bool :=
  decide (a0 = b0 ∧ a1 = b1 ∧ a2 = b2 ∧ a3 = b3 ∧ a4 = b4 ∧ a5 = b5 ∧ a6 = b6 ∧ a7 = b7)
def eqV (k n : Int) (s : ByteArray) (a0 a1 a2 a3 a4 a5 a6 a7 : Int) (k' n' : Int) (s' : ByteArray) (b0 b1 b2 b3 b4 b5 b6 b7 : Int) : Bool :=
  decide (k = k' ∧ n = n' ∧ s = s') && eqH a0 a1 a2 a3 a4 a5 a6 a7 b0 b1 b2 b3 b4 b5 b6 b7

theorem equalIn22 (a0 a1 a2 a3 a4 a5 a6 a7 b0 b1 b2 b3 b4 b5 b6 b7 : Int) (d : Nat) (w : World) :
    (Op.equalIn (d + 2) 38 (H8 a0 a1 a2 a3 a4 a5 a6 a7) (H8 b0 b1 b2 b3 b4 b5 b6 b7)).run Try.prog w = .ok (eqH a0 a1 a2 a3 a4 a5 a6 a7 b0 b1 b2 b3 b4 b5 b6 b7) w := by
  have u3 := Try.underlying3
  have a3' := Try.isAgg3
  have z3 := Try.sizeOf3
  rw [show d + 2 = (d + 1) + 1 from rfl, Op.equalIn]
  simp only [Sem.run_bind, run_underlying Try.underlying38, Result.andThen_ok]
  simp only [Std.Legacy.Range.forIn_eq_forIn_range', Std.Legacy.Range.size, Nat.sub_zero, Nat.add_sub_cancel, Nat.div_one, List.range'_succ, List.range'_zero, List.forIn_cons, List.forIn_nil]
  go_simp
  unfold eqH
  by_cases h0 : a0 = b0
  · by_cases h1 : a1 = b1
    · by_cases h2 : a2 = b2
      · by_cases h3 : a3 = b3
        · by_cases h4 : a4 = b4
          · by_cases h5 : a5 = b5
            · by_cases h6 : a6 = b6
              · by_cases h7 : a7 = b7 <;> simp [h0, h1, h2, h3, h4, h5, h6, h7]
              · simp [h0, h1, h2, h3, h4, h5, h6]
            · simp [h0, h1, h2, h3, h4, h5]
          · simp [h0, h1, h2, h3, h4]
        · simp [h0, h1, h2, h3]
      · simp [h0, h1, h2]
    · simp [h0, h1]
  · simp [h0]
theorem eql22 (a0 a1 a2 a3 a4 a5 a6 a7 b0 b1 b2 b3 b4 b5 b6 b7 : Int) (w : World) :
    (Op.equalIn 10000 38 (H8 a0 a1 a2 a3 a4 a5 a6 a7) (H8 b0 b1 b2 b3 b4 b5 b6 b7)).run Try.prog w = .ok (eqH a0 a1 a2 a3 a4 a5 a6 a7 b0 b1 b2 b3 b4 b5 b6 b7) w :=
  equalIn22 _ _ _ _ _ _ _ _ _ _ _ _ _ _ _ _ 9998 w
theorem bytes_toList_inj {s t : ByteArray} (h : s.toList = t.toList) : s = t := by
  rw [ByteArray.toList_eq, ByteArray.toList_eq] at h
  obtain ⟨⟨x⟩⟩ := s
  obtain ⟨⟨y⟩⟩ := t
  simp at h
  subst h; rfl
theorem bytes_beq (s t : ByteArray) : (s.toList == t.toList) = decide (s = t) := by
  by_cases h : s = t
  · subst h; simp
  · have : ¬ s.toList = t.toList := fun e => h (bytes_toList_inj e)
    simp [h, this]
theorem equalIn24 (k n : Int) (s : ByteArray) (a0 a1 a2 a3 a4 a5 a6 a7 : Int) (k' n' : Int) (s' : ByteArray) (b0 b1 b2 b3 b4 b5 b6 b7 : Int) (d : Nat) (w : World) :
    (Op.equalIn (d + 3) 40 (V k n s a0 a1 a2 a3 a4 a5 a6 a7) (V k' n' s' b0 b1 b2 b3 b4 b5 b6 b7)).run Try.prog w = .ok (eqV k n s a0 a1 a2 a3 a4 a5 a6 a7 k' n' s' b0 b1 b2 b3 b4 b5 b6 b7) w := by
  have u3 := Try.underlying3
  have a3' := Try.isAgg3
  have z3 := Try.sizeOf3
  have u9 := Try.underlying9
  have a9' := Try.isAgg9
  have z9 := Try.sizeOf9
  have a22' := Try.isAgg38
  have z22 := Try.sizeOf38
  have hS : Try.prog.underlying 40 = some (.struct (Try.prog.fieldsOf 40)) := by kernel_rfl
  have e22 := equalIn22 a0 a1 a2 a3 a4 a5 a6 a7 b0 b1 b2 b3 b4 b5 b6 b7 d
  rw [show d + 3 = (d + 2) + 1 from rfl, run_equalIn_agg w (d + 2) 40 _ _ hS Try.stoodInHeld40]
  simp only [Program.fieldsOf, Try.underlying40]
  have hb := bytes_beq s s'
  go_simp
  unfold eqV
  by_cases h0 : k = k'
  · by_cases h1 : n = n'
    · by_cases h2 : s = s'
      · cases eqH a0 a1 a2 a3 a4 a5 a6 a7 b0 b1 b2 b3 b4 b5 b6 b7 <;> simp [h0, h1, h2]
      · simp [h0, h1, h2]
    · simp [h0, h1]
  · simp [h0]
theorem eql24 (k n : Int) (s : ByteArray) (a0 a1 a2 a3 a4 a5 a6 a7 : Int) (k' n' : Int) (s' : ByteArray) (b0 b1 b2 b3 b4 b5 b6 b7 : Int) (w : World) :
    (Op.equalIn 10000 40 (V k n s a0 a1 a2 a3 a4 a5 a6 a7) (V k' n' s' b0 b1 b2 b3 b4 b5 b6 b7)).run Try.prog w = .ok (eqV k n s a0 a1 a2 a3 a4 a5 a6 a7 k' n' s' b0 b1 b2 b3 b4 b5 b6 b7) w :=
  equalIn24 _ _ _ _ _ _ _ _ _ _ _ _ _ _ _ _ _ _ _ _ _ _ 9997 w
theorem bcell {W w1 : World} (hb : Below W.heap.size W w1) : (∀ b o, b < W.heap.size → w1.cell? ⟨b, o, none⟩ = W.cell? ⟨b, o, none⟩) ∧ (∀ b o, b < W.heap.size → w1.frozen? ⟨b, o, none⟩ = W.frozen? ⟨b, o, none⟩) :=
  ⟨fun b o h => hb.cell (p := ⟨b, o, none⟩) h, fun b o h => hb.frozen (p := ⟨b, o, none⟩) h⟩

set_option maxHeartbeats 400000 in
theorem ofInt_any {n : Int} {w : World} :
    Calls Try.prog 104 #[.int .i64 n] w fun e w' => e = .returned (V 1 n ⟨#[]⟩ 0 0 0 0 0 0 0 0) ∧ Below w.heap.size w w' := by
  go_enter Try.func104, Try.ntmps104
  go_wp2
  exact bodyPost_ret (v := V 1 n ⟨#[]⟩ 0 0 0 0 0 0 0 0) (by simp [results, Try.results104, go_sem]) rfl ⟨rfl, (Below.refl _ _).alloc (Nat.le_refl _) _⟩
def cut64 (s : ByteArray) : ByteArray := s.extract 0 64
theorem cut64_short {s : ByteArray} (h : s.size ≤ 64) : cut64 s = s := by
  unfold cut64
  apply bytes_toList_inj
  rw [ByteArray.toList_eq, ByteArray.toList_eq]
  obtain ⟨⟨x⟩⟩ := s
  simp [ByteArray.size] at h
  rw [ByteArray.data_extract]
  simp [List.take_of_length_le h]
set_option maxHeartbeats 400000 in
theorem ofStr_any {s : ByteArray} {w : World} :
    Calls Try.prog 105 #[.string s] w fun e w' => e = .returned (V 2 0 (cut64 s) 0 0 0 0 0 0 0 0) ∧ Below w.heap.size w w' := by
  by_cases h : 64 < (s.size : Int)
  · go_enter Try.func105, Try.ntmps105
    go_wp2
    exact bodyPost_ret (v := V 2 0 (cut64 s) 0 0 0 0 0 0 0 0) (by simp [results, Try.results105, go_sem, cut64]) rfl ⟨rfl, (Below.refl _ _).alloc (Nat.le_refl _) _⟩
  · have h' : (s.size : Int) ≤ 64 := by omega
    rw [cut64_short (by omega)]
    go_enter Try.func105, Try.ntmps105
    go_wp2
    exact bodyPost_ret (v := V 2 0 s 0 0 0 0 0 0 0 0) (by simp [results, Try.results105, go_sem]) rfl ⟨rfl, (Below.refl _ _).alloc (Nat.le_refl _) _⟩
def b2i (b : Bool) : Int := if b then 1 else 0
set_option maxHeartbeats 400000 in
theorem ofBool_any {b : Bool} {w : World} :
    Calls Try.prog 106 #[.bool b] w fun e w' => e = .returned (V 3 (b2i b) ⟨#[]⟩ 0 0 0 0 0 0 0 0) ∧ Below w.heap.size w w' := by
  cases b
  · go_enter Try.func106, Try.ntmps106
    go_wp2
    exact bodyPost_ret (v := V 3 0 ⟨#[]⟩ 0 0 0 0 0 0 0 0) (by simp [results, Try.results106, go_sem]) rfl ⟨rfl, (Below.refl _ _).alloc (Nat.le_refl _) _⟩
  · go_enter Try.func106, Try.ntmps106
    go_wp2
    exact bodyPost_ret (v := V 3 1 ⟨#[]⟩ 0 0 0 0 0 0 0 0) (by simp [results, Try.results106, go_sem]) rfl ⟨rfl, (Below.refl _ _).alloc (Nat.le_refl _) _⟩
set_option maxHeartbeats 400000 in
theorem ofBuckets_any {a0 a1 a2 a3 a4 a5 a6 a7 : Int} {w : World} :
    Calls Try.prog 107 #[H8 a0 a1 a2 a3 a4 a5 a6 a7] w fun e w' => e = .returned (V 4 0 ⟨#[]⟩ a0 a1 a2 a3 a4 a5 a6 a7) ∧ Below w.heap.size w w' := by
  go_enter Try.func107, Try.ntmps107
  go_wp2
  exact bodyPost_ret (v := V 4 0 ⟨#[]⟩ a0 a1 a2 a3 a4 a5 a6 a7) (by simp [results, Try.results107, go_sem]) rfl ⟨rfl, ((Below.refl _ _).alloc (Nat.le_refl _) _).alloc (by simp) _⟩

end Go.Proofs.Ytjekpclbedbaoaa.TN
namespace Go.Proofs.Ytjekpclbedbaoaa.TN
open Go.RowKit

def zeroH (a0 a1 a2 a3 a4 a5 a6 a7 : Int) : Bool := eqH a0 a1 a2 a3 a4 a5 a6 a7 0 0 0 0 0 0 0 0
def noText : ByteArray := ⟨#[]⟩
def validB (k n : Int) (s : ByteArray) (a0 a1 a2 a3 a4 a5 a6 a7 : Int) : Bool :=
  if k = 1 then decide (s = noText) && zeroH a0 a1 a2 a3 a4 a5 a6 a7
  else if k = 2 then decide (n = 0) && (zeroH a0 a1 a2 a3 a4 a5 a6 a7 && decide (s.size ≤ 64))
  else if k = 3 then decide (n = 0 ∨ n = 1) && (decide (s = noText) && zeroH a0 a1 a2 a3 a4 a5 a6 a7)
  else if k = 4 then decide (n = 0) && decide (s = noText)
  else false

theorem cut64_eq_iff (s : ByteArray) : s = cut64 s ↔ s.size ≤ 64 := by
  constructor
  · intro h
    rw [h]; unfold cut64
    rw [ByteArray.size_extract]; omega
  · intro h; exact (cut64_short h).symm
theorem eqH_self (a0 a1 a2 a3 a4 a5 a6 a7 : Int) : eqH a0 a1 a2 a3 a4 a5 a6 a7 a0 a1 a2 a3 a4 a5 a6 a7 = true := by simp [eqH]

set_option maxHeartbeats 400000 in
theorem valid_1 (n : Int) (s : ByteArray) (a0 a1 a2 a3 a4 a5 a6 a7 : Int) (w : World) :
    Calls Try.prog 83 #[V 1 n s a0 a1 a2 a3 a4 a5 a6 a7] w fun e w' => e = .returned (.bool (eqV 1 n s a0 a1 a2 a3 a4 a5 a6 a7 1 n ⟨#[]⟩ 0 0 0 0 0 0 0 0)) ∧ Below w.heap.size w w' := by
  have he := @eql24
  go_enter Try.func83, Try.ntmps83
  go_wp2_with fail
  go_region_with (first | (go_at_call 104; refine ofInt_any.mono ?_; rintro e w' ⟨rfl, hb⟩; obtain ⟨hc, hf⟩ := bcell hb))
  all_goals
    go_wp2
    go_ret
    exact ⟨rfl, ((Below.refl _ _).alloc (Nat.le_refl _) _).drew.trans (hb.mono (by simp))⟩
set_option maxHeartbeats 400000 in
theorem valid_2 (n : Int) (s : ByteArray) (a0 a1 a2 a3 a4 a5 a6 a7 : Int) (w : World) :
    Calls Try.prog 83 #[V 2 n s a0 a1 a2 a3 a4 a5 a6 a7] w fun e w' => e = .returned (.bool (eqV 2 n s a0 a1 a2 a3 a4 a5 a6 a7 2 0 (cut64 s) 0 0 0 0 0 0 0 0)) ∧ Below w.heap.size w w' := by
  have he := @eql24
  go_enter Try.func83, Try.ntmps83
  go_wp2_with fail
  go_region_with (first | (go_at_call 105; refine ofStr_any.mono ?_; rintro e w' ⟨rfl, hb⟩; obtain ⟨hc, hf⟩ := bcell hb))
  all_goals
    go_wp2
    go_ret
    exact ⟨rfl, ((Below.refl _ _).alloc (Nat.le_refl _) _).drew.trans (hb.mono (by simp))⟩
set_option maxHeartbeats 400000 in
theorem valid_3 (n : Int) (s : ByteArray) (a0 a1 a2 a3 a4 a5 a6 a7 : Int) (w : World) :
    Calls Try.prog 83 #[V 3 n s a0 a1 a2 a3 a4 a5 a6 a7] w fun e w' => e = .returned (.bool (eqV 3 n s a0 a1 a2 a3 a4 a5 a6 a7 3 (b2i (n == 1)) ⟨#[]⟩ 0 0 0 0 0 0 0 0)) ∧ Below w.heap.size w w' := by
  have he := @eql24
  go_enter Try.func83, Try.ntmps83
  go_wp2_with fail
  go_region_with (first | (go_at_call 106; refine ofBool_any.mono ?_; rintro e w' ⟨rfl, hb⟩; obtain ⟨hc, hf⟩ := bcell hb))
  all_goals
    go_wp2
    go_ret
    exact ⟨rfl, ((Below.refl _ _).alloc (Nat.le_refl _) _).drew.trans (hb.mono (by simp))⟩
set_option maxHeartbeats 400000 in
theorem valid_4 (n : Int) (s : ByteArray) (a0 a1 a2 a3 a4 a5 a6 a7 : Int) (w : World) :
    Calls Try.prog 83 #[V 4 n s a0 a1 a2 a3 a4 a5 a6 a7] w fun e w' => e = .returned (.bool (eqV 4 n s a0 a1 a2 a3 a4 a5 a6 a7 4 0 ⟨#[]⟩ a0 a1 a2 a3 a4 a5 a6 a7)) ∧ Below w.heap.size w w' := by
  have he := @eql24
  go_enter Try.func83, Try.ntmps83
  go_wp2_with fail
  go_region_with (first | (go_at_call 107; refine ofBuckets_any.mono ?_; rintro e w' ⟨rfl, hb⟩; obtain ⟨hc, hf⟩ := bcell hb))
  all_goals
    go_wp2
    go_ret
    exact ⟨rfl, ((Below.refl _ _).alloc (Nat.le_refl _) _).drew.trans (hb.mono (by simp))⟩

set_option maxHeartbeats 400000 in
theorem valid_0 (k n : Int) (s : ByteArray) (a0 a1 a2 a3 a4 a5 a6 a7 : Int) (w : World) (h1 : (k == 1) = false) (h2 : (k == 2) = false) (h3 : (k == 3) = false) (h4 : (k == 4) = false) :
    Calls Try.prog 83 #[V k n s a0 a1 a2 a3 a4 a5 a6 a7] w fun e w' => e = .returned (.bool false) ∧ Below w.heap.size w w' := by
  go_enter Try.func83, Try.ntmps83
  go_wp2
  go_ret
  exact ⟨rfl, (Below.refl _ _).alloc (Nat.le_refl _) _⟩
theorem valid_any {k n : Int} {s : ByteArray} {a0 a1 a2 a3 a4 a5 a6 a7 : Int} {w : World} :
    Calls Try.prog 83 #[V k n s a0 a1 a2 a3 a4 a5 a6 a7] w fun e w' => e = .returned (.bool (validB k n s a0 a1 a2 a3 a4 a5 a6 a7)) ∧ Below w.heap.size w w' := by
  by_cases h1 : k = 1
  · subst h1
    have h : validB 1 n s a0 a1 a2 a3 a4 a5 a6 a7 = eqV 1 n s a0 a1 a2 a3 a4 a5 a6 a7 1 n ⟨#[]⟩ 0 0 0 0 0 0 0 0 := by
      by_cases hs : s = ⟨#[]⟩ <;> simp [validB, eqV, zeroH, noText, hs]
    rw [h]; exact valid_1 _ _ _ _ _ _ _ _ _ _ _
  · by_cases h2 : k = 2
    · subst h2
      have h : validB 2 n s a0 a1 a2 a3 a4 a5 a6 a7 = eqV 2 n s a0 a1 a2 a3 a4 a5 a6 a7 2 0 (cut64 s) 0 0 0 0 0 0 0 0 := by
        have := cut64_eq_iff s
        by_cases hs : s.size ≤ 64 <;> simp [validB, eqV, zeroH, this, hs]
      rw [h]; exact valid_2 _ _ _ _ _ _ _ _ _ _ _
    · by_cases h3 : k = 3
      · subst h3
        have h : validB 3 n s a0 a1 a2 a3 a4 a5 a6 a7 = eqV 3 n s a0 a1 a2 a3 a4 a5 a6 a7 3 (b2i (n == 1)) ⟨#[]⟩ 0 0 0 0 0 0 0 0 := by
          by_cases hs : s = ⟨#[]⟩
          · by_cases hn : n = 1
            · simp [validB, eqV, zeroH, noText, hn, hs, b2i]
            · simp [validB, eqV, zeroH, noText, hn, hs, b2i]
          · simp [validB, eqV, zeroH, noText, hs]
        rw [h]; exact valid_3 _ _ _ _ _ _ _ _ _ _ _
      · by_cases h4 : k = 4
        · subst h4
          have h : validB 4 n s a0 a1 a2 a3 a4 a5 a6 a7 = eqV 4 n s a0 a1 a2 a3 a4 a5 a6 a7 4 0 ⟨#[]⟩ a0 a1 a2 a3 a4 a5 a6 a7 := by
            by_cases hs : s = ⟨#[]⟩ <;> simp [validB, eqV, noText, eqH_self, hs]
          rw [h]; exact valid_4 _ _ _ _ _ _ _ _ _ _ _
        · have h : validB k n s a0 a1 a2 a3 a4 a5 a6 a7 = false := by simp [validB, h1, h2, h3, h4]
          rw [h]; exact valid_0 _ _ _ _ _ _ _ _ _ _ _ _ (by simpa using h1) (by simpa using h2) (by simpa using h3) (by simpa using h4)
end Go.Proofs.Ytjekpclbedbaoaa.TN
namespace Go.Proofs.Ytjekpclbedbaoaa.TN
open Go.RowKit

/- What was there is as it was; blocks may have come; the tape was asked no less often. -/
structure Grew (w w' : World) : Prop where
  below : Below w.heap.size w w'
  drawn : w.drawn ≤ w'.drawn
theorem Grew.refl (w : World) : Grew w w := ⟨Below.refl _ _, Nat.le_refl _⟩
theorem Grew.trans {a b c : World} (h : Grew a b) (k : Grew b c) : Grew a c := ⟨h.below.trans (k.below.mono h.below.size), Nat.le_trans h.drawn k.drawn⟩
theorem Grew.drewN {a b : World} (h : Grew a b) (n : Nat) : Grew a (b.drewN n) := ⟨h.below.trans ⟨rfl, rfl, rfl, Nat.le_refl _, fun _ _ => rfl⟩, Nat.le_trans h.drawn (Nat.le_add_right _ n)⟩
theorem Grew.drew {a b : World} (h : Grew a b) : Grew a b.drew := ⟨h.below.drew, Nat.le_trans h.drawn (Nat.le_add_right _ 1)⟩
theorem Grew.alloc {a b : World} (h : Grew a b) (o : Obj) : Grew a (b.alloc o) := ⟨h.below.alloc h.below.size o, h.drawn⟩
def cmpI (a b : Int) : Int := if a < b then -1 else if b < a then 1 else 0
def nth8 (a0 a1 a2 a3 a4 a5 a6 a7 : Int) : Nat → Int
  | 0 => a0 | 1 => a1 | 2 => a2 | 3 => a3 | 4 => a4 | 5 => a5 | 6 => a6 | 7 => a7 | _ => 0
/- The first place from k on, of m places, at which x and y part, and how. -/
def cmpFrom (x y : Nat → Int) : Nat → Nat → Int
  | 0, _ => 0
  | m + 1, k => if x k = y k then cmpFrom x y m (k + 1) else cmpI (x k) (y k)
def Arr (w : World) (b o : Nat) (x : Nat → Int) : Prop := ∀ i, i < 8 → w.cell? ⟨b, o + i, none⟩ = some (.int .i64 (x i))

theorem hid {p : Prop} (h : p) : Hid p := h
theorem ret_int {k : IntKind} {a b : Int} (h : a = b) : Ending.returned (.int k a) = .returned (.int k b) := by rw [h]

set_option maxHeartbeats 400000 in
theorem cmpInt_any {a b : Int} {w : World} :
    Calls Try.prog 114 #[.int .i64 a, .int .i64 b] w fun e w' => e = .returned (.int .i64 (cmpI a b)) ∧ w' = w := by
  go_enter Try.func114, Try.ntmps114
  go_wp2
  all_goals
    go_ret
    refine ⟨ret_int ?_, rfl⟩
    unfold cmpI
    split <;> (try split) <;> omega
theorem cmpI_self (a : Int) : cmpI a a = 0 := by simp [cmpI]
theorem cmpI_ne {a b : Int} (h : ¬ a = b) : (cmpI a b != 0) = true := by unfold cmpI; split <;> (try split) <;> simp <;> omega

theorem lt8 {i : Nat} (h : i < 8) : i = 0 ∨ i = 1 ∨ i = 2 ∨ i = 3 ∨ i = 4 ∨ i = 5 ∨ i = 6 ∨ i = 7 := by omega
theorem below_drewN {B : Nat} {a w : World} (h : Below B a w) (n : Nat) : Below B a (w.drewN n) := h.trans ⟨rfl, rfl, rfl, Nat.le_refl _, fun _ _ => rfl⟩
theorem cmpFrom_eq {x y : Nat → Int} {k : Nat} (hk : k < 8) (h : x k = y k) : cmpFrom x y (8 - k) k = cmpFrom x y (8 - (k + 1)) (k + 1) := by
  obtain ⟨m, hm⟩ : ∃ m, 8 - k = m + 1 := ⟨8 - (k + 1), by omega⟩
  rw [hm, show 8 - (k + 1) = m from by omega]; simp [cmpFrom, h]
theorem cmpFrom_ne {x y : Nat → Int} {k : Nat} (hk : k < 8) (h : ¬ x k = y k) : cmpFrom x y (8 - k) k = cmpI (x k) (y k) := by
  obtain ⟨m, hm⟩ : ∃ m, 8 - k = m + 1 := ⟨8 - (k + 1), by omega⟩
  rw [hm]; simp [cmpFrom, h]

set_option maxHeartbeats 400000 in
theorem cmpBuckets_any {a0 a1 a2 a3 a4 a5 a6 a7 b0 b1 b2 b3 b4 b5 b6 b7 : Int} {w : World} :
    Calls Try.prog 116 #[H8 a0 a1 a2 a3 a4 a5 a6 a7, H8 b0 b1 b2 b3 b4 b5 b6 b7] w fun e w' => e = .returned (.int .i64 (cmpFrom (nth8 a0 a1 a2 a3 a4 a5 a6 a7) (nth8 b0 b1 b2 b3 b4 b5 b6 b7) 8 0)) ∧ Grew w w' := by
  generalize hx : nth8 a0 a1 a2 a3 a4 a5 a6 a7 = x
  generalize hy : nth8 b0 b1 b2 b3 b4 b5 b6 b7 = y
  have HX := (show Hid (nth8 a0 a1 a2 a3 a4 a5 a6 a7 = x) from hx)
  have HY := (show Hid (nth8 b0 b1 b2 b3 b4 b5 b6 b7 = y) from hy)
  clear hx hy
  go_enter Try.func116, Try.ntmps116
  go_wp2
  go_loopw [7] (fun i w'' => ∃ k : Nat, k ≤ 8 ∧ i = .int .i64 k ∧ Hid (cmpFrom x y (8 - k) k = cmpFrom x y 8 0) ∧ Hid (Arr w'' w.heap.size 0 x) ∧ Hid (Arr w'' (w.heap.size + 1) 0 y) ∧ Hid (Grew w w'')) (fun i _ => 8 - (intOf i).toNat)
  case atStart => 
    refine ⟨0, by omega, rfl, rfl, ?_, ?_, ?_⟩
    · intro i hi
      rw [← HX.out]
      rcases lt8 hi with rfl | rfl | rfl | rfl | rfl | rfl | rfl | rfl <;> (simp [nth8, go_sem]; done)
    · intro i hi
      rw [← HY.out]
      rcases lt8 hi with rfl | rfl | rfl | rfl | rfl | rfl | rfl | rfl <;> (simp [nth8, go_sem]; done)
    · exact ((Grew.refl _).alloc _).alloc _
  case round =>
    obtain ⟨k, hk, rfl, HC, HA, HB, HBel⟩ := hrel
    by_cases hlt : k < 8
    · have hA : wr.cell? ⟨w.heap.size, k, none⟩ = some (.int .i64 (x k)) := by have := HA.out k hlt; simpa using this
      have hB : wr.cell? ⟨w.heap.size + 1, k, none⟩ = some (.int .i64 (y k)) := by have := HB.out k hlt; simpa using this
      by_cases he : x k = y k
      · have H0 : Hid (x k = y k) := he
        rw [← he] at hB
        have hz := cmpI_self (x k)
        clear he
        go_wp2_with fail
        go_quiet ((go_at_call 114; exact Calls.quiet_of_same cmpInt_any))
        go_wp2
        go_roundw
        case rel => exact ⟨k + 1, by omega, by go_num, (cmpFrom_eq hlt H0.out).symm.trans HC.out, HA.out, HB.out, HBel.out.drewN _⟩
        case measure => simp [intOf]; omega
      · have H0 : Hid (¬ x k = y k) := he
        have hz := cmpI_ne he
        clear he
        go_wp2_with fail
        go_quiet ((go_at_call 114; exact Calls.quiet_of_same cmpInt_any))
        go_wp2
        go_ret
        exact ⟨ret_int ((cmpFrom_ne hlt H0.out).symm.trans HC.out), HBel.out.drewN _⟩
    · have h8 : k = 8 := by omega
      subst h8
      go_wp2
      go_ret
      exact ⟨ret_int (by have := HC.out; simpa [cmpFrom] using this), HBel.out⟩

/- The order of texts, by their bytes. -/
def cmpB : List UInt8 → List UInt8 → Int
  | [], [] => 0
  | [], _ :: _ => -1
  | _ :: _, [] => 1
  | a :: x, b :: y => if a < b then -1 else if b < a then 1 else cmpB x y
theorem cmpB_less (x y : List UInt8) : Op.bytesLess x y = decide (cmpB x y = -1) := by
  induction x generalizing y with
  | nil => cases y <;> simp [Op.bytesLess, cmpB]
  | cons a x ih =>
    cases y with
    | nil => simp [Op.bytesLess, cmpB]
    | cons b y =>
      simp only [Op.bytesLess, cmpB, ih]
      by_cases h1 : a < b
      · simp [h1]
      · by_cases h2 : b < a
        · have : ¬ a = b := fun e => by subst e; exact h1 h2
          simp [h1, h2, this]
        · have : a = b := UInt8.le_antisymm (UInt8.not_lt.1 h2) (UInt8.not_lt.1 h1)
          subst this; simp [h1]
theorem cmpB_zero (x y : List UInt8) : cmpB x y = 0 ↔ x = y := by
  induction x generalizing y with
  | nil => cases y <;> simp [cmpB]
  | cons a x ih =>
    cases y with
    | nil => simp [cmpB]
    | cons b y =>
      simp only [cmpB, List.cons.injEq]
      by_cases h1 : a < b
      · have : ¬ a = b := fun e => by subst e; exact UInt8.lt_irrefl _ h1
        simp [h1, this]
      · by_cases h2 : b < a
        · have : ¬ a = b := fun e => by subst e; exact h1 h2
          simp [h1, h2, this]
        · have : a = b := UInt8.le_antisymm (UInt8.not_lt.1 h2) (UInt8.not_lt.1 h1)
          subst this; simp [h1, ih]
theorem cmpB_three (x y : List UInt8) : cmpB x y = -1 ∨ cmpB x y = 0 ∨ cmpB x y = 1 := by
  induction x generalizing y with
  | nil => cases y <;> simp [cmpB]
  | cons a x ih =>
    cases y with
    | nil => simp [cmpB]
    | cons b y =>
      simp only [cmpB]
      split
      · simp
      · split
        · simp
        · exact ih y
def cmpS (s t : ByteArray) : Int := cmpB s.toList t.toList
set_option maxHeartbeats 400000 in
theorem cmpStr_any {s t : ByteArray} {w : World} :
    Calls Try.prog 115 #[.string s, .string t] w fun e w' => e = .returned (.int .i64 (cmpS s t)) ∧ w' = w := by
  go_enter Try.func115, Try.ntmps115
  go_wp2
  all_goals
    go_ret
    refine ⟨ret_int ?_, rfl⟩
    have h3 := cmpB_three s.toList t.toList
    have hl := cmpB_less s.toList t.toList
    have h0 := cmpB_zero s.toList t.toList
    unfold cmpS
    simp_all
  all_goals omega

def thn (c d : Int) : Int := if c = 0 then d else c
theorem thn_zero {c d : Int} (h : (c != 0) = false) : thn c d = d := by simp at h; simp [thn, h]
theorem thn_ne {c d : Int} (h : (c != 0) = true) : thn c d = c := by simp at h; simp [thn, h]
def cmpV (k n : Int) (s : ByteArray) (a0 a1 a2 a3 a4 a5 a6 a7 : Int) (k' n' : Int) (s' : ByteArray) (b0 b1 b2 b3 b4 b5 b6 b7 : Int) : Int :=
  thn (cmpI k k') (thn (cmpI n n') (thn (cmpS s s') (cmpFrom (nth8 a0 a1 a2 a3 a4 a5 a6 a7) (nth8 b0 b1 b2 b3 b4 b5 b6 b7) 8 0)))
set_option maxHeartbeats 400000 in
theorem compare_any {k n : Int} {s : ByteArray} {a0 a1 a2 a3 a4 a5 a6 a7 : Int} {k' n' : Int} {s' : ByteArray} {b0 b1 b2 b3 b4 b5 b6 b7 : Int} {w : World} :
    Calls Try.prog 100 #[V k n s a0 a1 a2 a3 a4 a5 a6 a7, V k' n' s' b0 b1 b2 b3 b4 b5 b6 b7] w fun e w' => e = .returned (.int .i64 (cmpV k n s a0 a1 a2 a3 a4 a5 a6 a7 k' n' s' b0 b1 b2 b3 b4 b5 b6 b7)) ∧ Grew w w' := by
  generalize hr : cmpV k n s a0 a1 a2 a3 a4 a5 a6 a7 k' n' s' b0 b1 b2 b3 b4 b5 b6 b7 = r
  unfold cmpV at hr
  cases h1 : cmpI k k' != 0
  · rw [thn_zero h1] at hr
    cases h2 : cmpI n n' != 0
    · rw [thn_zero h2] at hr
      cases h3 : cmpS s s' != 0
      · rw [thn_zero h3] at hr
        have HR : Hid _ := hr
        clear hr
        go_enter Try.func100, Try.ntmps100
        go_wp2_with (first | (go_at_call 114; refine cmpInt_any.mono ?_; rintro e w' ⟨rfl, rfl⟩) | (go_at_call 115; refine cmpStr_any.mono ?_; rintro e w' ⟨rfl, rfl⟩) | (go_at_call 116; refine cmpBuckets_any.mono ?_; rintro e w' ⟨rfl, hb⟩))
        go_ret
        exact ⟨ret_int HR.out, (((Grew.refl _).alloc _).alloc _).trans hb⟩
      · rw [thn_ne h3] at hr
        have HR : Hid _ := hr
        clear hr
        go_enter Try.func100, Try.ntmps100
        go_wp2_with (first | (go_at_call 114; refine cmpInt_any.mono ?_; rintro e w' ⟨rfl, rfl⟩) | (go_at_call 115; refine cmpStr_any.mono ?_; rintro e w' ⟨rfl, rfl⟩))
        go_ret
        exact ⟨ret_int HR.out, ((Grew.refl _).alloc _).alloc _⟩
    · rw [thn_ne h2] at hr
      have HR : Hid _ := hr
      clear hr
      go_enter Try.func100, Try.ntmps100
      go_wp2_with (first | (go_at_call 114; refine cmpInt_any.mono ?_; rintro e w' ⟨rfl, rfl⟩))
      go_ret
      exact ⟨ret_int HR.out, ((Grew.refl _).alloc _).alloc _⟩
  · rw [thn_ne h1] at hr
    have HR : Hid _ := hr
    clear hr
    go_enter Try.func100, Try.ntmps100
    go_wp2_with (first | (go_at_call 114; refine cmpInt_any.mono ?_; rintro e w' ⟨rfl, rfl⟩))
    go_ret
    exact ⟨ret_int HR.out, ((Grew.refl _).alloc _).alloc _⟩
end Go.Proofs.Ytjekpclbedbaoaa.TN
namespace Go.Proofs.Ytjekpclbedbaoaa.TN

/- The order of values is one: each of its parts is, and one part behind another. -/
def tri (x y z : Int) : Prop :=
  (x = -1 ∨ x = 0 ∨ x = 1) ∧ (y = -1 ∨ y = 0 ∨ y = 1) ∧ (z = -1 ∨ z = 0 ∨ z = 1) ∧
  (x = 0 → z = y) ∧ (y = 0 → z = x) ∧ (x = -1 → y = -1 → z = -1) ∧ (x = 1 → y = 1 → z = 1)
theorem tri_cmpI (a b c : Int) : tri (cmpI a b) (cmpI b c) (cmpI a c) := by
  unfold tri cmpI
  repeat' split
  all_goals omega
theorem tri_thn {x y z x' y' z' : Int} (h : tri x y z) (h' : tri x' y' z') : tri (thn x x') (thn y y') (thn z z') := by
  obtain ⟨hx, hy, hz, h1, h2, h3, h4⟩ := h
  obtain ⟨hx', hy', hz', h1', h2', h3', h4'⟩ := h'
  rcases hx with rfl | rfl | rfl <;> rcases hy with rfl | rfl | rfl <;> rcases hz with rfl | rfl | rfl <;>
    first
    | (exfalso; clear hx' hy' hz' h1' h2' h3' h4'; omega)
    | (simp only [thn]; refine ⟨?_, ?_, ?_, ?_, ?_, ?_, ?_⟩ <;> simp <;> omega)
theorem cmpFrom_thn (x y : Nat → Int) (m k : Nat) : cmpFrom x y (m + 1) k = thn (cmpI (x k) (y k)) (cmpFrom x y m (k + 1)) := by
  unfold thn
  simp only [cmpFrom]
  by_cases h : x k = y k
  · simp [h, cmpI]
  · rw [if_neg h, if_neg (fun e => by have := cmpI_ne h; simp [e] at this)]
theorem tri_cmpFrom (x y z : Nat → Int) (m k : Nat) : tri (cmpFrom x y m k) (cmpFrom y z m k) (cmpFrom x z m k) := by
  induction m generalizing k with
  | zero => unfold tri; simp [cmpFrom]
  | succ m ih => simp only [cmpFrom_thn]; exact tri_thn (tri_cmpI _ _ _) (ih _)
theorem cmpB_thn (a b : UInt8) (x y : List UInt8) : cmpB (a :: x) (b :: y) = thn (cmpI (a.toNat : Int) (b.toNat : Int)) (cmpB x y) := by
  simp only [cmpB, thn, cmpI, UInt8.lt_iff_toNat_lt]
  repeat' split
  all_goals first | rfl | omega
theorem tri_left {y : Int} (h : y = -1 ∨ y = 0 ∨ y = 1) : tri (-1) y (-1) := by unfold tri; omega
theorem tri_right {x : Int} (h : x = -1 ∨ x = 0 ∨ x = 1) : tri x 1 1 := by unfold tri; omega
theorem tri_mid {z : Int} (h : z = -1 ∨ z = 0 ∨ z = 1) : tri 1 (-1) z := by unfold tri; omega
theorem tri_cmpB (x y z : List UInt8) : tri (cmpB x y) (cmpB y z) (cmpB x z) := by
  induction x generalizing y z with
  | nil =>
    cases y with
    | nil => cases z <;> simp [tri, cmpB]
    | cons b y =>
      cases z with
      | nil => simp [tri, cmpB]
      | cons c z => exact tri_left (cmpB_three _ _)
  | cons a x ih =>
    cases y with
    | nil =>
      cases z with
      | nil => simp [tri, cmpB]
      | cons c z => exact tri_mid (cmpB_three _ _)
    | cons b y =>
      cases z with
      | nil => exact tri_right (cmpB_three _ _)
      | cons c z => simp only [cmpB_thn]; exact tri_thn (tri_cmpI _ _ _) (ih _ _)
theorem neg_cmpI (a b : Int) : cmpI b a = -cmpI a b := by
  unfold cmpI
  repeat' split
  all_goals omega
theorem neg_thn {x y x' y' : Int} (h : y = -x) (h' : y' = -x') : thn y y' = -thn x x' := by
  unfold thn
  repeat' split
  all_goals omega
theorem neg_cmpFrom (x y : Nat → Int) (m k : Nat) : cmpFrom y x m k = -cmpFrom x y m k := by
  induction m generalizing k with
  | zero => simp [cmpFrom]
  | succ m ih => simp only [cmpFrom_thn]; exact neg_thn (neg_cmpI _ _) (ih _)
theorem neg_cmpB (x y : List UInt8) : cmpB y x = -cmpB x y := by
  induction x generalizing y with
  | nil => cases y <;> simp [cmpB]
  | cons a x ih =>
    cases y with
    | nil => simp [cmpB]
    | cons b y => simp only [cmpB_thn]; exact neg_thn (neg_cmpI _ _) (ih _)
section
variable (k n : Int) (s : ByteArray) (a0 a1 a2 a3 a4 a5 a6 a7 : Int) (k' n' : Int) (s' : ByteArray) (b0 b1 b2 b3 b4 b5 b6 b7 : Int) (k'' n'' : Int) (s'' : ByteArray) (c0 c1 c2 c3 c4 c5 c6 c7 : Int)
theorem tri_cmpV : tri (cmpV k n s a0 a1 a2 a3 a4 a5 a6 a7 k' n' s' b0 b1 b2 b3 b4 b5 b6 b7) (cmpV k' n' s' b0 b1 b2 b3 b4 b5 b6 b7 k'' n'' s'' c0 c1 c2 c3 c4 c5 c6 c7) (cmpV k n s a0 a1 a2 a3 a4 a5 a6 a7 k'' n'' s'' c0 c1 c2 c3 c4 c5 c6 c7) :=
  tri_thn (tri_cmpI _ _ _) (tri_thn (tri_cmpI _ _ _) (tri_thn (tri_cmpB _ _ _) (tri_cmpFrom _ _ _ _ _)))
theorem neg_cmpV : cmpV k' n' s' b0 b1 b2 b3 b4 b5 b6 b7 k n s a0 a1 a2 a3 a4 a5 a6 a7 = -cmpV k n s a0 a1 a2 a3 a4 a5 a6 a7 k' n' s' b0 b1 b2 b3 b4 b5 b6 b7 :=
  neg_thn (neg_cmpI _ _) (neg_thn (neg_cmpI _ _) (neg_thn (neg_cmpB _ _) (neg_cmpFrom _ _ _ _)))
theorem cmpI_zero (a b : Int) : cmpI a b = 0 ↔ a = b := by
  unfold cmpI
  repeat' split
  all_goals omega
theorem thn_zero_iff (x y : Int) : thn x y = 0 ↔ x = 0 ∧ y = 0 := by
  unfold thn
  split <;> omega
theorem eqV_cmpV : eqV k n s a0 a1 a2 a3 a4 a5 a6 a7 k' n' s' b0 b1 b2 b3 b4 b5 b6 b7 = (cmpV k n s a0 a1 a2 a3 a4 a5 a6 a7 k' n' s' b0 b1 b2 b3 b4 b5 b6 b7 == 0) := by
  rw [Bool.eq_iff_iff]
  unfold cmpV eqV eqH cmpS
  simp only [cmpFrom_thn]
  simp only [Bool.and_eq_true, decide_eq_true_eq, beq_iff_eq, thn_zero_iff, cmpI_zero, cmpB_zero, cmpFrom, nth8, and_true]
  constructor
  · rintro ⟨⟨rfl, rfl, rfl⟩, h⟩; exact ⟨rfl, rfl, rfl, h⟩
  · rintro ⟨h1, h2, h3, h⟩; exact ⟨⟨h1, h2, bytes_toList_inj h3⟩, h⟩
end
end Go.Proofs.Ytjekpclbedbaoaa.TN
namespace Go.Proofs.Ytjekpclbedbaoaa.TN
open Go.RowKit Go.Sort

theorem ret_bool {a b : Bool} (h : a = b) : Ending.returned (.bool a) = .returned (.bool b) := by rw [h]
theorem below_on {W w1 w2 : World} (h : Below W.heap.size W w1) (h2 : Below w1.heap.size w1 w2) : Below W.heap.size W w2 := h.trans (h2.mono h.size)
theorem lt_of_block {w : World} {b : Nat} {o : Obj} (h : w.heap[b]? = some o) : b < w.heap.size := (Array.getElem?_eq_some_iff.1 h).1
theorem block_on {w w' : World} {b : Nat} {o : Obj} (h : w.heap[b]? = some o) (hb : Below w.heap.size w w') : w'.heap[b]? = some o := (hb.block b (lt_of_block h)).trans h
theorem block_cell {w : World} {b : Nat} {xs : Array Value} {t : TypeId} {fz : Nat × Nat} (h : w.heap[b]? = some (.cells xs t fz)) (o : Nat) : w.cell? ⟨b, o, none⟩ = xs[o]? := by
  simp [World.cell?, h]
theorem alloc_block (w : World) (o : Obj) : (w.alloc o).heap[w.heap.size]? = some o := by
  show (w.heap.push o)[w.heap.size]? = _
  simp
end Go.Proofs.Ytjekpclbedbaoaa.TN
