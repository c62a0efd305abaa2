/-
  The walk of catchmentlaw02.TableSame.
-/
import Derived.Test.YtaccindmjaejdaaQChecksWalk
namespace Go.Proofs.Ytaccindmjaejdaa
open Go.RowKit Go.Sort Go.Shelf

def sameB (cs : List Cl) (rs : List Rw) (ds : List Cl) (qs : List Rw) : Bool := decide (cs = ds ∧ rs = qs)
theorem sameB_self (cs : List Cl) (rs : List Rw) : sameB cs rs cs rs = true := by simp [sameB]
theorem sameB_symm (cs : List Cl) (rs : List Rw) (ds : List Cl) (qs : List Rw) : sameB ds qs cs rs = sameB cs rs ds qs := by
  unfold sameB
  rw [decide_eq_decide]
  constructor <;> (rintro ⟨h1, h2⟩; exact ⟨h1.symm, h2.symm⟩)
theorem same_is {u v : Value} {cs ds : List Cl} {rs qs : List Rw} {w : World} {c : Bool} (hu : TabAt w u cs rs) (hv : TabAt w v ds qs) (h : sameB cs rs ds qs = c) :
    Calls Try.prog 32 #[u, v] w fun e w' => e = .returned (.bool c) ∧ Below w.heap.size w w' := by rw [← h]; exact same_any hu hv
theorem rsame_is {u v : Value} {cs ds : List Cl} {rs qs : List Rw} {w : World} {c : Bool} (hu : TabAt w u cs rs) (hv : TabAt w v ds qs) (h : sameB cs rs ds qs = c) :
    Calls Try.prog 17 #[u, v] w fun e w' => e = .returned (.bool c) ∧ Below w.heap.size w w' := by rw [← h]; exact rsame_any hu hv
theorem heap_set2 {w : World} {b R i : Nat} {u : Value} {o : Obj} (h : w.heap[b]? = some o) (hne : b ≠ R) : (w.setCell ⟨R, i, none⟩ u).heap[b]? = some o := (heap_setCell_other w ⟨R, i, none⟩ b u hne).trans h
end Go.Proofs.Ytaccindmjaejdaa
