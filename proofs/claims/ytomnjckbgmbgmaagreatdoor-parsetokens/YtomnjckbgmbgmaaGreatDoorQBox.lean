/-
  A box of a token in a world that has gone on.
-/
import Derived.Test.YtomnjckbgmbgmaaGreatDoorQSign
namespace Go.Proofs.YtomnjckbgmbgmaaGreatDoor
open Go.RowKit
theorem lt_of_block {w : World} {b : Nat} {o : Obj} (h : w.heap[b]? = some o) : b < w.heap.size := by
  apply Classical.byContradiction; intro hn
  rw [Array.getElem?_eq_none (by omega)] at h; cases h
theorem block_on {w w' : World} {b : Nat} {o : Obj} (h : w.heap[b]? = some o) (hb : Below w.heap.size w w') : w'.heap[b]? = some o := (hb.block b (lt_of_block h)).trans h
theorem block_cell {w : World} {b : Nat} {xs : Array Value} {t : TypeId} {fz : Nat × Nat} (h : w.heap[b]? = some (.cells xs t fz)) (o : Nat) : w.cell? ⟨b, o, none⟩ = xs[o]? := by
  simp [World.cell?, h]
theorem alloc_block (w : World) (o : Obj) : (w.alloc o).heap[w.heap.size]? = some o := by
  show (w.heap.push o)[w.heap.size]? = _
  simp
theorem block_frozen {w : World} {b : Nat} {xs : Array Value} {t : TypeId} (h : w.heap[b]? = some (.cells xs t (0, 0))) (o : Nat) : w.frozen? ⟨b, o, none⟩ = false := by
  simp [World.frozen?, h]
theorem block_set {w : World} {b : Nat} {xs : Array Value} {t : TypeId} {fz : Nat × Nat} (h : w.heap[b]? = some (.cells xs t fz)) (o : Nat) (v : Value) : (w.setCell ⟨b, o, none⟩ v).heap[b]? = some (.cells (xs.setIfInBounds o v) t fz) := by
  simp [World.setCell, Array.getElem?_modify, h]
/-- A token's box. -/
def Bx (w : World) (b : Nat) (c0 c1 c2 c3 : Value) : Prop := w.heap[b]? = some (.cells #[c0, c1, c2, c3] 33 (0, 0))
theorem Bx.cells {w : World} {b : Nat} {c0 c1 c2 c3 : Value} (h : Bx w b c0 c1 c2 c3) : w.cell? ⟨b, 0, none⟩ = some c0 ∧ w.cell? ⟨b, 1, none⟩ = some c1 ∧ w.cell? ⟨b, 2, none⟩ = some c2 ∧ w.cell? ⟨b, 3, none⟩ = some c3 :=
  ⟨block_cell h 0, block_cell h 1, block_cell h 2, block_cell h 3⟩
theorem Bx.frozen {w : World} {b : Nat} {c0 c1 c2 c3 : Value} (h : Bx w b c0 c1 c2 c3) (o : Nat) : w.frozen? ⟨b, o, none⟩ = false := block_frozen h o
theorem Bx.on {w w' : World} {b : Nat} {c0 c1 c2 c3 : Value} (h : Bx w b c0 c1 c2 c3) (hb : Below w.heap.size w w') : Bx w' b c0 c1 c2 c3 := block_on h hb
theorem Bx.made (w : World) (c0 c1 c2 c3 : Value) : Bx (w.alloc (.cells #[c0, c1, c2, c3] 33)) w.heap.size c0 c1 c2 c3 := alloc_block w _
abbrev set4 (w : World) (b : Nat) (d0 d1 d2 d3 : Value) : World := (((w.setCell ⟨b, 0, none⟩ d0).setCell ⟨b, 1, none⟩ d1).setCell ⟨b, 2, none⟩ d2).setCell ⟨b, 3, none⟩ d3
theorem Bx.set4 {w : World} {b : Nat} {c0 c1 c2 c3 : Value} (h : Bx w b c0 c1 c2 c3) (d0 d1 d2 d3 : Value) : Bx (set4 w b d0 d1 d2 d3) b d0 d1 d2 d3 :=
  block_set (block_set (block_set (block_set h 0 d0) 1 d1) 2 d2) 3 d3
theorem below_set4 {w0 w : World} {b : Nat} (h : Below w0.heap.size w0 w) (hb : w0.heap.size ≤ b) (d0 d1 d2 d3 : Value) : Below w0.heap.size w0 (set4 w b d0 d1 d2 d3) :=
  (((h.setCell (p := ⟨b, 0, none⟩) hb d0).setCell (p := ⟨b, 1, none⟩) hb d1).setCell (p := ⟨b, 2, none⟩) hb d2).setCell (p := ⟨b, 3, none⟩) hb d3
/-- What a call behind the box keeps. -/
theorem box_keep {w w3 : World} {c0 c1 c2 c3 : Value} (hb : Below (w.alloc (.cells #[c0, c1, c2, c3] 33)).heap.size (w.alloc (.cells #[c0, c1, c2, c3] 33)) w3) : Bx w3 w.heap.size c0 c1 c2 c3 ∧ Below w.heap.size w w3 :=
  ⟨(Bx.made w c0 c1 c2 c3).on hb, ((Below.refl _ w).alloc (Nat.le_refl _) _).trans (hb.mono (by simp))⟩
end Go.Proofs.YtomnjckbgmbgmaaGreatDoor
