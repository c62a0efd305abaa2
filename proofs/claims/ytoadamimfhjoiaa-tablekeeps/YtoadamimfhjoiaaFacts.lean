/-
  The document's examples as plain data: what each of them comes to.
-/
import Derived.Test.YtoadamimfhjoiaaSmall
import Derived.Test.YtoadamimfhjoiaaKeep
import Derived.Test.YtoadamimfhjoiaaUnion
namespace Go.Proofs.Ytoadamimfhjoiaa
open Go.RowKit Go.Sort Go.Shelf

def cols0 : List Cl := [cK, cN]
def rowsA : List Rw := (List.range 3).map (rowS ⟨#[98, 97, 97]⟩ [1, 2, 1])
def rowsB : List Rw := (List.range 3).map (rowS ⟨#[97, 97, 98]⟩ [1, 2, 1])
def nmN : ByteArray := ⟨#[110]⟩
def nmX : ByteArray := ⟨#[120]⟩
def vSt (c : UInt8) : Vl := ⟨2, 0, ⟨#[c]⟩, 0, 0, 0, 0, 0, 0, 0, 0, by unfold maxLen; simp [ByteArray.size]⟩
theorem find_n : findC cols0 nmN = 1 := by kernel_rfl
theorem find_x : findC cols0 nmX = -1 := by kernel_rfl
theorem name_1 : nameB ⟨#[97, 35, 98]⟩ = true := by kernel_rfl
theorem name_2 : nameB ⟨#[57]⟩ = false := by kernel_rfl
theorem name_3 : nameB ⟨#[]⟩ = false := by kernel_rfl
theorem check_twice : checkV [cK, cK] [] = 20 := by kernel_rfl
theorem check_short : checkV cols0 [[vSt 97]] = 21 := by kernel_rfl
theorem check_A : checkV cols0 rowsA = 0 := by kernel_rfl
theorem places_n : places cols0 [nmN] [] = [1] := by kernel_rfl
theorem row_at (s : ByteArray) (ns : List Int) (i : Nat) {c : UInt8} (h : s.extract i (i + 1) = ⟨#[c]⟩) : rowS s ns i = [vSt c, vInt ns[i]!] := by
  unfold rowS vS vSt
  simp only [h]
theorem rowsA_is : rowsA = [[vSt 98, vInt 1], [vSt 97, vInt 2], [vSt 97, vInt 1]] := by
  show [rowS _ _ 0, rowS _ _ 1, rowS _ _ 2] = _
  rw [row_at (c := 98) _ _ 0 (by kernel_rfl), row_at (c := 97) _ _ 1 (by kernel_rfl), row_at (c := 97) _ _ 2 (by kernel_rfl)]; rfl
theorem rowsB_is : rowsB = [[vSt 97, vInt 1], [vSt 97, vInt 2], [vSt 98, vInt 1]] := by
  show [rowS _ _ 0, rowS _ _ 1, rowS _ _ 2] = _
  rw [row_at (c := 97) _ _ 0 (by kernel_rfl), row_at (c := 97) _ _ 1 (by kernel_rfl), row_at (c := 98) _ _ 2 (by kernel_rfl)]; rfl
theorem up3 {x y z : Rw} (h1 : cmpR x y ≤ 0) (h2 : cmpR x z ≤ 0) (h3 : cmpR y z ≤ 0) : upR [x, y, z] := by
  unfold upR
  simp [h1, h2, h3]
theorem canon_A : sortR rowsA = rowsB := by
  rw [rowsA_is, rowsB_is]
  exact (sortR_of (up3 (by rw [show cmpR [vSt 97, vInt 1] [vSt 97, vInt 2] = -1 by kernel_rfl]; decide) (by rw [show cmpR [vSt 97, vInt 1] [vSt 98, vInt 1] = -1 by kernel_rfl]; decide) (by rw [show cmpR [vSt 97, vInt 2] [vSt 98, vInt 1] = -1 by kernel_rfl]; decide)) (List.reverse_perm [[vSt 98, vInt 1], [vSt 97, vInt 2], [vSt 97, vInt 1]])).symm
theorem keepE_A : keepE cols0 rowsA [nmN] = 0 := by unfold keepE; rw [check_A, places_n]; rfl
theorem keepC_A : keepC cols0 rowsA [nmN] = [cN] := by unfold keepC; rw [keepE_A, places_n]; rfl
theorem keepR_A : keepR cols0 rowsA [nmN] = [[vInt 1], [vInt 1], [vInt 2]] := by
  unfold keepR
  rw [keepE_A, places_n, rowsA_is, if_pos rfl]
  show sortR [[vInt 1], [vInt 2], [vInt 1]] = _
  exact (sortR_of (up3 (by rw [show cmpR [vInt 1] [vInt 1] = 0 by kernel_rfl]; decide) (by rw [show cmpR [vInt 1] [vInt 2] = -1 by kernel_rfl]; decide) (by rw [show cmpR [vInt 1] [vInt 2] = -1 by kernel_rfl]; decide)) (List.Perm.cons _ (List.Perm.swap _ _ _))).symm
theorem unionE_A : unionE cols0 rowsA cols0 rowsA = 0 := by unfold unionE; rw [check_A]; rfl
theorem unionR_A : (unionR cols0 rowsA cols0 rowsA).length = 6 := by
  unfold unionR
  rw [unionE_A, if_pos rfl, sortR_length, rowsA_is]
  rfl
end Go.Proofs.Ytoadamimfhjoiaa
