/-
  What Go's slices.Clone returns, for columns and for rows.
-/
import Derived.Test.YtoadamimfhjoiaaOwn
namespace Go.Proofs.Ytoadamimfhjoiaa
open Go.RowKit Go.Sort Go.Shelf

theorem SlAt.bound {α : Type} {Q : Nat → Prop} {enc : α → List Value} {k : Nat} {w : World} {v : Value} {xs : List α} (h : SlAt Q enc k w v xs) : xs.length * bsz k ≤ 140737488355328 := by
  obtain ⟨p, cap, _, _, _, hx⟩ := h
  by_cases hn : xs = []
  · subst hn; simp
  · obtain ⟨_, _, _, hb, _⟩ := hx hn; exact hb.2
theorem SlAt.nil {α : Type} (Q : Nat → Prop) (enc : α → List Value) (k : Nat) (w : World) : SlAt Q enc k w (.slice none 0 0) ([] : List α) :=
  ⟨none, 0, rfl, ⟨Nat.le_refl _, fun _ => rfl⟩, Nat.zero_le _, fun h => absurd rfl h⟩
theorem SlAt.empty {α : Type} {Q : Nat → Prop} {enc : α → List Value} {k : Nat} {w : World} {cap : Nat} {xs : List α} {n : Nat} (h : SlAt Q enc k w (.slice none n cap) xs) : xs = [] := by
  obtain ⟨p, cap', hv, _, _, hx⟩ := h
  by_cases hn : xs = []
  · exact hn
  · obtain ⟨b, o, hp, _⟩ := hx hn
    subst hp; cases hv
set_option maxHeartbeats 400000 in
theorem cloneV_any {u : Value} {r : Rw} {w : World} (hu : RowAt w u r) :
    Calls Try.prog 37 #[u] w fun e w' => ∃ v', e = .returned v' ∧ RowIn (fun b => w.heap.size ≤ b) w' v' r ∧ Below w.heap.size w w' := by
  have HU := hid hu
  obtain ⟨p, cap, rfl, hcap, hmax, hx⟩ := hu
  clear hcap hmax hx
  generalize List.length r = n at *
  have q22 : ∀ (w : World) (a : Option Addr) (n c n' c' : Nat), (binOp .eql 35 (.slice a n c) (.slice none n' c')).run Try.prog w = .ok (.bool a.isNone) w := fun w a n c n' c' => Lib.run_eql_slice_nil w _ _ a n c n' c' Try.underlying35
  cases p with
  | none =>
    have hn := SlAt.empty HU.out
    subst hn
    go_enter Try.func37, Try.ntmps37
    go_wp2
    go_ret
    exact ⟨_, rfl, SlAt.nil _ _ _ _, Below.refl _ _⟩
  | some ad =>
    go_enter Try.func37, Try.ntmps37
    go_wp2_with (at_builtin; refine app_any elem48 vl_len (fun x _ => vl_cells x) rfl _ _ rfl rfl (Own.made Vl.cells 11 48 w.heap.size w (Nat.le_refl _)) rfl (SlAt.on HU.out ((Below.refl _ _).alloc (Nat.le_refl _) _)) (by simpa using SlAt.bound HU.out) (by simp) ?_; intro v' w1 hown hb1)
    go_ret
    exact ⟨_, rfl, Own.sl (by rw [List.nil_append] at hown; exact hown) vl_len (SlAt.bound HU.out), ((Below.refl _ _).alloc (Nat.le_refl _) _).trans hb1⟩
set_option maxHeartbeats 400000 in
theorem cloneC_any {u : Value} {r : List Cl} {w : World} (hu : ColsAt w u r) :
    Calls Try.prog 36 #[u] w fun e w' => ∃ v', e = .returned v' ∧ SlAt (fun b => w.heap.size ≤ b) Cl.cells 2 w' v' r ∧ Below w.heap.size w w' := by
  have HU := hid hu
  obtain ⟨p, cap, rfl, hcap, hmax, hx⟩ := hu
  clear hcap hmax hx
  generalize List.length r = n at *
  have q22 : ∀ (w : World) (a : Option Addr) (n c n' c' : Nat), (binOp .eql 22 (.slice a n c) (.slice none n' c')).run Try.prog w = .ok (.bool a.isNone) w := fun w a n c n' c' => Lib.run_eql_slice_nil w _ _ a n c n' c' Try.underlying22
  cases p with
  | none =>
    have hn := SlAt.empty HU.out
    subst hn
    go_enter Try.func36, Try.ntmps36
    go_wp2
    go_ret
    exact ⟨_, rfl, SlAt.nil _ _ _ _, Below.refl _ _⟩
  | some ad =>
    go_enter Try.func36, Try.ntmps36
    go_wp2_with (at_builtin; refine app_any elem45 cl_len (fun x _ => cl_cells x) rfl _ _ rfl rfl (Own.made Cl.cells 2 45 w.heap.size w (Nat.le_refl _)) rfl (SlAt.on HU.out ((Below.refl _ _).alloc (Nat.le_refl _) _)) (by simpa using SlAt.bound HU.out) (by simp) ?_; intro v' w1 hown hb1)
    go_ret
    exact ⟨_, rfl, Own.sl (by rw [List.nil_append] at hown; exact hown) cl_len (SlAt.bound HU.out), ((Below.refl _ _).alloc (Nat.le_refl _) _).trans hb1⟩
end Go.Proofs.Ytoadamimfhjoiaa
