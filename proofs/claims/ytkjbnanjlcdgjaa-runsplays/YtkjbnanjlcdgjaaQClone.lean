/-
  What Go's slices.Clone returns, of a row of values.
-/
import Derived.Test.YtkjbnanjlcdgjaaQOwn
namespace Go.Proofs.Ytkjbnanjlcdgjaa
open Go.RowKit Go.Sort

theorem SlAt.bound {α : Type} {Q : Nat → Prop} {enc : α → List Value} {k : Nat} {w : World} {v : Value} {xs : List α} (h : SlAt Q enc k w v xs) : xs.length * bsz k ≤ 140737488355328 := by
  obtain ⟨p, cap, _, _, _, hx⟩ := h
  by_cases hn : xs = []
  · subst hn; simp
  · obtain ⟨_, _, _, hb, _⟩ := hx hn; exact hb.2
theorem SlAt.nil {α : Type} (Q : Nat → Prop) (enc : α → List Value) (k : Nat) (w : World) : SlAt Q enc k w (.slice none 0 0) ([] : List α) :=
  ⟨none, 0, rfl, ⟨Nat.le_refl _, fun _ => rfl⟩, Nat.zero_le _, fun h => absurd rfl h⟩
theorem SlAt.empty {α : Type} {Q : Nat → Prop} {enc : α → List Value} {k : Nat} {w : World} {cap : Nat} {xs : List α} {n : Nat} (h : SlAt Q enc k w (.slice none n cap) xs) : xs = [] := by
  obtain ⟨p, cap', hv, _, _, hx⟩ := h
  by_cases hn : xs = []
  · exact hn
  · obtain ⟨b, o, hp, _⟩ := hx hn
    subst hp; cases hv
end Go.Proofs.Ytkjbnanjlcdgjaa
