/-
  Rows of names, and the three things that Add can do, for StreamsRoom.
-/
import Derived.Test.YtnjeocjachmbkaaQXRoomM
namespace Go.Proofs.Ytnjeocjachmbkaa
open Go.RowKit Go.Sort Go.Maps Go.Shelf

def encS (s : ByteArray) : List Value := [.string s]
theorem encs_len (s : ByteArray) : (encS s).length = 1 := rfl
theorem encs_cells (s : ByteArray) : ∀ c ∈ encS s, c.oneCell' = true := by intro c hc; simp [encS] at hc; subst hc; rfl
theorem str1 {w : World} {x : ByteArray} : SlAt any encS 1 (w.alloc (.cells #[.string x] 9)) (.slice (some ⟨w.heap.size, 0, none⟩) 1 1) [x] := by
  refine ⟨_, 1, rfl, ⟨Nat.le_refl _, fun e => by cases e⟩, by simp [maxLen], fun _ => ⟨_, 0, rfl, ⟨trivial, by simp [bsz]⟩, fun j y hj i u hu => ?_⟩⟩
  have hj0 : j = 0 := by have := (List.getElem?_eq_some_iff.1 hj).1; simp at this; omega
  subst hj0
  simp at hj
  subst hj
  have hi : i = 0 := by have := (List.getElem?_eq_some_iff.1 hu).1; simp [encS] at this; omega
  subst hi
  rw [block_cell (alloc_block w _)]
  simpa [encS] using hu
theorem names_cell {Q : Nat → Prop} {w : World} {p : Option Addr} {n c : Nat} {xs : List ByteArray} {j : Nat} {x : ByteArray} (h : SlAt Q encS 1 w (.slice p n c) xs) (hj : xs[j]? = some x) : ∃ g o, p = some ⟨g, o, none⟩ ∧ w.cell? ⟨g, o + j, none⟩ = some (.string x) := by
  obtain ⟨p', c', hv, -, -, hx⟩ := h
  have hlt := (List.getElem?_eq_some_iff.1 hj).1
  obtain ⟨g, o, hp, -, hc⟩ := hx (by intro e; subst e; simp at hlt)
  have := hc j x hj 0 _ rfl
  injection hv with h1
  refine ⟨g, o, h1.trans hp, ?_⟩
  rw [Nat.mul_one, Nat.add_zero] at this
  exact this
theorem inN_take {a : List ByteArray} {j : Nat} {x nm : ByteArray} (h : a[j]? = some x) : inN (a.take (j + 1)) nm = (inN (a.take j) nm || decide (x = nm)) := by
  rw [List.take_add_one, h]
  unfold inN
  rw [List.any_append]
  simp
theorem add_three {M : Int} {F : List Sm} (hd : Dc F) (s : Sm) :
    (∃ ev : Int, (ev == 0) = false ∧ memS F s = false ∧ addE M F s = ev ∧ addL M F s = F ∧ addL M F s = F) ∨
    (memS F s = true ∧ addE M F s = 0 ∧ addL M F s = F ∧ addL M F s = F) ∨
    (memS F s = false ∧ addE M F s = 0 ∧ addL M F s = F ++ [s] ∧ addL M F s = F ++ [s]) := by
  cases hok : okK s.ks with
  | false =>
    refine .inl ⟨10, rfl, memS_bad hd hok, ?_, addL_bad hok, addL_bad hok⟩
    unfold addE; rw [hok]; rfl
  | true =>
    cases hm : memS F s with
    | true =>
      have hm' : s ∈ F := by simpa [memS] using hm
      refine .inr (.inl ⟨rfl, ?_, addL_in hm, addL_in hm⟩)
      unfold addE; rw [hok, if_pos rfl, if_pos hm']
    | false =>
      have hm' : s ∉ F := by simpa [memS] using hm
      cases hf : fullB M F with
      | true =>
        refine .inl ⟨80, rfl, rfl, ?_, addL_full hf, addL_full hf⟩
        unfold addE; rw [hok, if_pos rfl, if_neg hm', hf, if_pos rfl]
      | false =>
        refine .inr (.inr ⟨rfl, ?_, addL_new hok hm hf, addL_new hok hm hf⟩)
        unfold addE; rw [hok, if_pos rfl, if_neg hm', hf, if_neg (by decide)]
end Go.Proofs.Ytnjeocjachmbkaa
