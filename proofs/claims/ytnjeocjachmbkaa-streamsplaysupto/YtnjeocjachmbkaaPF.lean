/-
  What the reference's Valid and Compare return, for every input: what the program's do.
-/
import Derived.Test.YtnjeocjachmbkaaPA
import Derived.Deep.Light
namespace Go.Proofs.Ytnjeocjachmbkaa
open Go.RowKit
theorem toList_nil (s : ByteArray) : s.toList = [] ↔ s = noText := by
  constructor
  · intro h; exact bytes_toList_inj (by rw [h, ByteArray.toList_eq]; rfl)
  · intro h; subst h; rw [ByteArray.toList_eq]; rfl
theorem toList_isEmpty (s : ByteArray) : s.toList.isEmpty = decide (s = noText) := by
  rw [Bool.eq_iff_iff]; simp [toList_nil]
theorem size_iff (s : ByteArray) : (s.size : Int) ≤ 64 ↔ s.size ≤ 64 := by omega
set_option maxHeartbeats 400000 in
theorem rvalid_any {k n : Int} {s : ByteArray} {a0 a1 a2 a3 a4 a5 a6 a7 : Int} {w : World} :
    Calls Try.prog 29 #[V k n s a0 a1 a2 a3 a4 a5 a6 a7] w fun e w' => e = .returned (.bool (validB k n s a0 a1 a2 a3 a4 a5 a6 a7)) ∧ Below w.heap.size w w' := by
  have he := @eql22
  generalize hr : validB k n s a0 a1 a2 a3 a4 a5 a6 a7 = r
  have HR := hid (show validB k n s a0 a1 a2 a3 a4 a5 a6 a7 = r from hr)
  clear hr
  by_cases h1 : k = 1
  · subst h1
    go_enter Try.func29, Try.ntmps29
    go_wp2
    all_goals
      go_ret
      refine ⟨ret_bool ?_, (Below.refl _ _).alloc (Nat.le_refl _) _⟩
      go_light
      rw [← HR.out]
      have ht := toList_nil s
      have hz := size_iff s
      simp_all [validB, zeroH]
  · by_cases h2 : k = 2
    · subst h2
      go_enter Try.func29, Try.ntmps29
      go_wp2
      all_goals
        go_ret
        refine ⟨ret_bool ?_, (Below.refl _ _).alloc (Nat.le_refl _) _⟩
        go_light
        rw [← HR.out]
        have ht := toList_nil s
        have hz := size_iff s
        simp_all [validB, zeroH]
    · by_cases h3 : k = 3
      · subst h3
        go_enter Try.func29, Try.ntmps29
        go_wp2
        all_goals
          go_ret
          refine ⟨ret_bool ?_, (Below.refl _ _).alloc (Nat.le_refl _) _⟩
          go_light
          rw [← HR.out]
          have ht := toList_nil s
          have hz := size_iff s
          simp_all [validB, zeroH]
      · by_cases h4 : k = 4
        · subst h4
          go_enter Try.func29, Try.ntmps29
          go_wp2
          all_goals
            go_ret
            refine ⟨ret_bool ?_, (Below.refl _ _).alloc (Nat.le_refl _) _⟩
            go_light
            rw [← HR.out]
            have ht := toList_nil s
            have hz := size_iff s
            have hi := toList_isEmpty s
            simp_all [validB]
        · have g1 : (k == 1) = false := by simpa using h1
          have g2 : (k == 2) = false := by simpa using h2
          have g3 : (k == 3) = false := by simpa using h3
          have g4 : (k == 4) = false := by simpa using h4
          have HR2 := hid (show validB k n s a0 a1 a2 a3 a4 a5 a6 a7 = false by simp [validB, h1, h2, h3, h4])
          clear h1 h2 h3 h4
          go_enter Try.func29, Try.ntmps29
          go_wp2
          go_ret
          exact ⟨ret_bool (by rw [← HR.out, HR2.out]), (Below.refl _ _).alloc (Nat.le_refl _) _⟩
theorem alloc_block2 (w : World) (x y : Obj) : ((w.alloc x).alloc y).heap[w.heap.size + 1]? = some y := by
  have h := alloc_block (w.alloc x) y
  rwa [World.size_alloc] at h
theorem wrap64_u8 (c : UInt8) : wrap64 (c.toNat : Int) = (c.toNat : Int) := by
  have := c.toNat_lt
  go_arith
theorem nth8_cell {W : World} {b : Nat} {k n : Int} {s : ByteArray} {a0 a1 a2 a3 a4 a5 a6 a7 : Int} (h : W.heap[b]? = some (.cells #[.int .i64 k, .int .i64 n, .string s, .int .i64 a0, .int .i64 a1, .int .i64 a2, .int .i64 a3, .int .i64 a4, .int .i64 a5, .int .i64 a6, .int .i64 a7] 25 (0, 0))) (i : Nat) (hi : i < 8) : W.cell? ⟨b, 3 + i, none⟩ = some (.int .i64 (nth8 a0 a1 a2 a3 a4 a5 a6 a7 i)) := by
  rw [block_cell h]
  rcases lt8 hi with rfl | rfl | rfl | rfl | rfl | rfl | rfl | rfl <;> rfl
theorem cmpB_drop_eq {x y : ByteArray} {i : Nat} (hx : i < x.size) (hy : i < y.size) (h : x[i] = y[i]) : cmpB (x.data.toList.drop i) (y.data.toList.drop i) = cmpB (x.data.toList.drop (i + 1)) (y.data.toList.drop (i + 1)) := by
  rw [List.drop_eq_getElem_cons (i := i) (by simpa using hx), List.drop_eq_getElem_cons (i := i) (l := y.data.toList) (by simpa using hy)]
  have h' : x.data.toList[i]'(by simpa using hx) = y.data.toList[i]'(by simpa using hy) := h
  simp [cmpB, h']
theorem cmpB_drop_ne {x y : ByteArray} {i : Nat} (hx : i < x.size) (hy : i < y.size) (h : ¬ x[i] = y[i]) : cmpB (x.data.toList.drop i) (y.data.toList.drop i) = cmpI (x[i].toNat : Int) (y[i].toNat : Int) := by
  rw [List.drop_eq_getElem_cons (i := i) (by simpa using hx), List.drop_eq_getElem_cons (i := i) (l := y.data.toList) (by simpa using hy)]
  have e1 : x.data.toList[i]'(by simpa using hx) = x[i] := rfl
  have e2 : y.data.toList[i]'(by simpa using hy) = y[i] := rfl
  rw [e1, e2]
  generalize x[i] = a at *
  generalize y[i] = b at *
  simp only [cmpB, cmpI, UInt8.lt_iff_toNat_lt]
  have hne : a.toNat ≠ b.toNat := fun e => h (UInt8.toNat_inj.1 e)
  repeat' split
  all_goals omega
theorem cmpB_end {x y : ByteArray} {i : Nat} (h1 : i ≤ x.size) (h2 : i ≤ y.size) (h : ¬ (i < x.size ∧ i < y.size)) : cmpB (x.data.toList.drop i) (y.data.toList.drop i) = cmpI (x.size : Int) (y.size : Int) := by
  have lx : x.data.toList.length = x.size := Array.length_toList
  have ly : y.data.toList.length = y.size := Array.length_toList
  have dx : (x.data.toList.drop i).length = x.size - i := by rw [List.length_drop, lx]
  have dy : (y.data.toList.drop i).length = y.size - i := by rw [List.length_drop, ly]
  generalize x.data.toList.drop i = p at *
  generalize y.data.toList.drop i = q at *
  unfold cmpI
  cases p with
  | nil =>
    cases q with
    | nil => simp at dx dy; rw [if_neg (by omega), if_neg (by omega)]; rfl
    | cons b q => simp at dx dy; rw [if_pos (by omega)]; rfl
  | cons a p =>
    cases q with
    | nil => simp at dx dy; rw [if_neg (by omega), if_pos (by omega)]; rfl
    | cons b q => simp at dx dy; omega
end Go.Proofs.Ytnjeocjachmbkaa
