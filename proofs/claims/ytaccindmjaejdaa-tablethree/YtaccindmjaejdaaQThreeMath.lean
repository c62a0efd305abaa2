/-
  Three parts of a table's rows, put together either way: lists alone.
-/
import Derived.Test.YtaccindmjaejdaaQAllMath
import Derived.Test.YtaccindmjaejdaaQUnion
namespace Go.Proofs.Ytaccindmjaejdaa
open Go.RowKit Go.Sort Go.Shelf

theorem check_sub {cs : List Cl} {rs qs : List Rw} (h : checkV cs rs = 0) (hs : ∀ r ∈ qs, r ∈ rs) : checkV cs qs = 0 := by
  have hc := check_colsB h
  unfold checkV at h ⊢
  rw [if_pos hc] at h ⊢
  split at h
  · rename_i ha
    rw [List.all_eq_true] at ha
    rw [if_pos (List.all_eq_true.2 fun r hr => ha r (hs r hr))]
  · omega
theorem union_ok {cs : List Cl} {rs qs : List Rw} (h1 : checkV cs rs = 0) (h2 : checkV cs qs = 0) : unionE cs rs cs qs = 0 ∧ unionC cs rs cs qs = cs ∧ unionR cs rs cs qs = sortR (rs ++ qs) := by
  have hE : unionE cs rs cs qs = 0 := by unfold unionE; rw [if_pos h1, if_pos h2, if_pos rfl]
  refine ⟨hE, ?_, ?_⟩
  · unfold unionC; rw [if_pos hE]
  · unfold unionR; rw [if_pos hE]
theorem check_app {cs : List Cl} {rs qs all : List Rw} (h : checkV cs all = 0) (h1 : ∀ r ∈ rs, r ∈ all) (h2 : ∀ r ∈ qs, r ∈ all) : checkV cs (sortR (rs ++ qs)) = 0 :=
  check_sub h fun r hr => by
    rcases List.mem_append.1 ((sortR_perm _).mem_iff.1 hr) with h | h
    · exact h1 r h
    · exact h2 r h
theorem three_parts {rs : List Rw} {i j : Nat} (h : i ≤ j) : rs.take i ++ ((rs.drop i).take (j - i) ++ rs.drop j) = rs := by
  have e : rs.drop j = (rs.drop i).drop (j - i) := by rw [List.drop_drop]; congr 1; omega
  rw [e, List.take_append_drop, List.take_append_drop]
theorem three_left {rs : List Rw} {i j : Nat} (h : i ≤ j) : sortR (sortR (rs.take i ++ (rs.drop i).take (j - i)) ++ rs.drop j) = sortR rs := by
  refine (sortR_perm_eq ((sortR_perm _).append_right _)).trans ?_
  rw [List.append_assoc, three_parts h]
theorem three_right {rs : List Rw} {i j : Nat} (h : i ≤ j) : sortR (rs.take i ++ sortR ((rs.drop i).take (j - i) ++ rs.drop j)) = sortR rs := by
  refine (sortR_perm_eq ((sortR_perm _).append_left _)).trans ?_
  rw [three_parts h]
end Go.Proofs.Ytaccindmjaejdaa
