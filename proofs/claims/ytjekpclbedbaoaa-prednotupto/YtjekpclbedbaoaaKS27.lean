/-
  A row of heads that is sorted in place: how it lies in memory, exchanges, swapRange, rotate.
  rotate: two stretches change places.
-/
import Derived.Test.YtjekpclbedbaoaaKS05
import Derived.Test.YtjekpclbedbaoaaKS26
import Derived.BigRegion
import Derived.RegionTactic
import Derived.LoopTactic
import Derived.Deep.QuietTactic
namespace Go.Proofs.Ytjekpclbedbaoaa.SS
open Go.RowKit Go.Joins

/- Block B holds n heads: at place i that of tag f i. -/
def Rf (enc : Nat → Value) (B n : Nat) (f : Nat → Nat) (w : World) : Prop := ∃ A : Array Value, w.heap[B]? = some (.cells A 48 (0, 0)) ∧ A.size = n ∧ ∀ i, i < n → A[i]? = some (enc (f i))
theorem Rf.lt {enc : Nat → Value} {B n : Nat} {f : Nat → Nat} {w : World} (h : Rf enc B n f w) : B < w.heap.size := let ⟨_, h1, _⟩ := h; lt_of_block h1
theorem Rf.cell {enc : Nat → Value} {B n : Nat} {f : Nat → Nat} {w : World} (h : Rf enc B n f w) {i : Nat} (hi : i < n) : w.cell? ⟨B, i, none⟩ = some (enc (f i)) := by
  obtain ⟨A, h1, h2, h3⟩ := h
  rw [block_cell h1]; exact h3 i hi
theorem Rf.frozen {enc : Nat → Value} {B n : Nat} {f : Nat → Nat} {w : World} (h : Rf enc B n f w) (i : Nat) : w.frozen? ⟨B, i, none⟩ = false := by
  obtain ⟨A, h1, h2, h3⟩ := h
  exact block_frozen h1 i
theorem Rf.kp {enc : Nat → Value} {B n : Nat} {f : Nat → Nat} {w w' : World} {T : Nat → Prop} (h : Rf enc B n f w) (hk : Kp T w w') (ht : ¬ T B) : Rf enc B n f w' := by
  obtain ⟨A, h1, h2, h3⟩ := h
  exact ⟨A, hk.blk h1 ht, h2, h3⟩
theorem Rf.on {enc : Nat → Value} {B n : Nat} {f : Nat → Nat} {w w' : World} (h : Rf enc B n f w) (hb : Below w.heap.size w w') : Rf enc B n f w' := h.kp (T := fun _ => False) (Kp.of hb) id
theorem Rf.drew {enc : Nat → Value} {B n : Nat} {f : Nat → Nat} {w : World} (h : Rf enc B n f w) : Rf enc B n f w.drew := h.on (Below.refl _ _).drew
theorem Rf.swap {enc : Nat → Value} {B n : Nat} {f : Nat → Nat} {w : World} (h : Rf enc B n f w) {i j : Nat} (hi : i < n) (_ : j < n) : Rf enc B n (sw i j f) ((w.setCell ⟨B, i, none⟩ (enc (f j))).setCell ⟨B, j, none⟩ (enc (f i))) := by
  obtain ⟨A, h1, h2, h3⟩ := h
  refine ⟨_, block_set (block_set h1 i _) j _, by simp [h2], fun k hk => ?_⟩
  rw [Array.getElem?_setIfInBounds, Array.getElem?_setIfInBounds]
  unfold sw
  by_cases e1 : j = k
  · subst e1
    rw [if_pos rfl, if_pos (by simp [h2]; exact hk)]
    by_cases e2 : j = i
    · subst e2; rw [if_pos rfl]
    · rw [if_neg e2, if_pos rfl]
  · rw [if_neg e1]
    by_cases e2 : i = k
    · subst e2
      rw [if_pos rfl, if_pos (by rw [h2]; exact hk), if_pos rfl]
    · rw [if_neg e2, if_neg (fun e => e2 e.symm), if_neg (fun e => e1 e.symm)]
      exact h3 k hk
theorem kp_swap {B : Nat} {w : World} {i j : Nat} {u v : Value} : Kp (fun b => b = B) w ((w.setCell ⟨B, i, none⟩ u).setCell ⟨B, j, none⟩ v) := (Kp.set (T := fun b => b = B) rfl _).trans (Kp.set (T := fun b => b = B) rfl _)
theorem swap_any {enc : Nat → Value} {B n : Nat} {f : Nat → Nat} {w : World} (h : Rf enc B n f w) {i j : Nat} (hi : i < n) (hj : j < n) : Rf enc B n (sw i j f) (((w.setCell ⟨B, i, none⟩ (enc (f j))).setCell ⟨B, j, none⟩ (enc (f i))).drew) ∧ Kp (fun b => b = B) w (((w.setCell ⟨B, i, none⟩ (enc (f j))).setCell ⟨B, j, none⟩ (enc (f i))).drew) := ⟨(h.swap hi hj).drew, kp_swap.trans (Kp.drew _ _)⟩
/- Each head is a slice. -/
def Sls (enc : Nat → Value) : Prop := ∀ x, ∃ p n c, enc x = .slice p n c
end Go.Proofs.Ytjekpclbedbaoaa.SS
namespace Go.Proofs.Ytjekpclbedbaoaa.SS
open Go.RowKit Go.Joins

end Go.Proofs.Ytjekpclbedbaoaa.SS
