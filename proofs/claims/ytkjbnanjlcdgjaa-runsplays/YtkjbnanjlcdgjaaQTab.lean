/-
  How rows of elements lie in memory.
-/
import Derived.Test.YtkjbnanjlcdgjaaQData
namespace Go.Proofs.Ytkjbnanjlcdgjaa
open Go.RowKit Go.Sort

/- Cells one behind the other. -/
def CellsAt (w : World) (b o : Nat) (xs : List Value) : Prop := ∀ (j : Nat) u, xs[j]? = some u → w.cell? ⟨b, o + j, none⟩ = some u
theorem CellsAt.on {w w' : World} {b o : Nat} {xs : List Value} (h : CellsAt w b o xs) (hb : Below w.heap.size w w') : CellsAt w' b o xs := fun j u hj => by
  have := h j u hj
  exact (hb.cell (p := ⟨b, o + j, none⟩) (block_lt_of_cell this)).trans this
/- How many bytes an element of k cells takes, for the three kinds of slices here. -/
def bsz (k : Nat) : Nat := if k = 11 then 96 else 24
/- A slice of elements of k cells each, in a block of which Q holds. -/
def SlAt {α : Type} (Q : Nat → Prop) (enc : α → List Value) (k : Nat) (w : World) (v : Value) (xs : List α) : Prop :=
  ∃ (p : Option Addr) (cap : Nat), v = .slice p xs.length cap ∧ (xs.length ≤ cap ∧ (p = none → cap = 0)) ∧ xs.length ≤ maxLen ∧ (xs ≠ [] → ∃ b o, p = some ⟨b, o, none⟩ ∧ (Q b ∧ xs.length * bsz k ≤ 140737488355328) ∧ ∀ (j : Nat) x, xs[j]? = some x → CellsAt w b (o + j * k) (enc x))
theorem SlAt.on {α : Type} {Q : Nat → Prop} {enc : α → List Value} {k : Nat} {w w' : World} {v : Value} {xs : List α} (h : SlAt Q enc k w v xs) (hb : Below w.heap.size w w') : SlAt Q enc k w' v xs := by
  obtain ⟨p, cap, hv, hc, hm, hx⟩ := h
  exact ⟨p, cap, hv, hc, hm, fun hne => let ⟨b, o, hp, hQ, hj⟩ := hx hne; ⟨b, o, hp, hQ, fun j x hjx => (hj j x hjx).on hb⟩⟩
theorem SlAt.imp {α : Type} {Q Q' : Nat → Prop} {enc : α → List Value} {k : Nat} {w : World} {v : Value} {xs : List α} (h : SlAt Q enc k w v xs) (hq : ∀ b, Q b → Q' b) : SlAt Q' enc k w v xs := by
  obtain ⟨p, cap, hv, hc, hm, hx⟩ := h
  exact ⟨p, cap, hv, hc, hm, fun hne => let ⟨b, o, hp, hQ, hj⟩ := hx hne; ⟨b, o, hp, ⟨hq b hQ.1, hQ.2⟩, hj⟩⟩
def any (_ : Nat) : Prop := True
def RowIn (Q : Nat → Prop) (w : World) (v : Value) (r : Rw) : Prop := SlAt Q Vl.cells 11 w v r
abbrev RowAt := RowIn any
theorem RowIn.on {Q : Nat → Prop} {w w' : World} {v : Value} {r : Rw} (h : RowIn Q w v r) (hb : Below w.heap.size w w') : RowIn Q w' v r := SlAt.on h hb
theorem RowIn.imp {Q Q' : Nat → Prop} {w : World} {v : Value} {r : Rw} (h : RowIn Q w v r) (hq : ∀ b, Q b → Q' b) : RowIn Q' w v r := SlAt.imp h hq
theorem RowIn.at {Q : Nat → Prop} {w : World} {v : Value} {r : Rw} (h : RowIn Q w v r) : RowAt w v r := h.imp fun _ _ => trivial
def one (v : Value) : List Value := [v]
/- What a walk wants of one element. -/
theorem cells_at {w : World} {b o : Nat} {xs : List Value} (h : CellsAt w b o xs) (i : Nat) {u : Value} (hu : xs[i]? = some u) : w.cell? ⟨b, o + i, none⟩ = some u := h i u hu
structure ValCells (w : World) (b o : Nat) (v : Vl) : Prop where
  c0 : w.cell? ⟨b, o, none⟩ = some (.int .i64 v.k)
  c1 : w.cell? ⟨b, o + 1, none⟩ = some (.int .i64 v.n)
  c2 : w.cell? ⟨b, o + 2, none⟩ = some (.string v.s)
  c3 : w.cell? ⟨b, o + 3, none⟩ = some (.int .i64 v.h0)
  c4 : w.cell? ⟨b, o + 4, none⟩ = some (.int .i64 v.h1)
  c5 : w.cell? ⟨b, o + 5, none⟩ = some (.int .i64 v.h2)
  c6 : w.cell? ⟨b, o + 6, none⟩ = some (.int .i64 v.h3)
  c7 : w.cell? ⟨b, o + 7, none⟩ = some (.int .i64 v.h4)
  c8 : w.cell? ⟨b, o + 8, none⟩ = some (.int .i64 v.h5)
  c9 : w.cell? ⟨b, o + 9, none⟩ = some (.int .i64 v.h6)
  c10 : w.cell? ⟨b, o + 10, none⟩ = some (.int .i64 v.h7)
theorem val_cells {w : World} {b o : Nat} {v : Vl} (h : CellsAt w b o v.cells) : ValCells w b o v :=
  ⟨h 0 _ rfl, h 1 _ rfl, h 2 _ rfl, h 3 _ rfl, h 4 _ rfl, h 5 _ rfl, h 6 _ rfl, h 7 _ rfl, h 8 _ rfl, h 9 _ rfl, h 10 _ rfl⟩
end Go.Proofs.Ytkjbnanjlcdgjaa
