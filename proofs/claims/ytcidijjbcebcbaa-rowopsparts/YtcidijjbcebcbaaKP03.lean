/-
  A pair of numbers as an argument.
  The first rows of a table are the first ones of its parts' first ones, and of fewer first ones those: the Go function catchmentlaw16.RowopsParts returns true for every input, and changes none. No condition.
-/
import Derived.Test.YtcidijjbcebcbaaRows
import Derived.Test.YtcidijjbcebcbaaProg
import Derived.Test.YtcidijjbcebcbaaKW22
import Derived.Test.YtcidijjbcebcbaaKP02
import Derived.KernelRfl
import Derived.WideKeyPair
namespace Go.Proofs.Ytcidijjbcebcbaa.RO

theorem arr2 : Go.WideMaps.ArrKey Try.prog 58 3 2 := ⟨by kernel_rfl, by kernel_rfl, by kernel_rfl, by kernel_rfl⟩
end Go.Proofs.Ytcidijjbcebcbaa.RO
namespace Go.Proofs.Ytcidijjbcebcbaa.RO
open Go.ChangeShapes Go.WideShapes Go.ChangeAt Go.WideMaps Go.WideElems Go.RowKit Go.Joins
open Go.ChangeMaps (open_string shut_string)

set_option maxRecDepth 100000 in
theorem rowopsParts_lifted (os : Os) (started : os.Started) (H : Type) (enc : TypeId × Value → H) :
    ReturnsInHanded {} Try.checked os 9 .any (Rows.rowopsPartsSpec.pre6 enc Try.prog Try.f9 Rows.rowopsPartsRow.domain false) (Rows.rowopsPartsSpec.post enc Try.prog Try.f9 false true false false) := by
  refine returnsInHanded_of_change_sized (C := Try.checked) TN.own started (by kernel_rfl) Try.func9
    (ChangeSpec.witness6 (enc := enc) (C := Try.checked) false ⟨#[], #[.agg #[.slice none 0 0, .slice none 0 0], .agg #[.int .i64 0, .int .i64 0], .int .i64 0], []⟩ 8 (by kernel_rfl) (by kernel_rfl) (by kernel_rfl) (by kernel_rfl)) ?_
  intro W base args ds gs before hval0 hW _ hsz _
  have hval : ∀ (j : Nat) t v, Try.f9.params[j]? = some t → args[j]? = some v → Value.okWide Try.prog W .any base t v := hval0
  have hW' := hW
  obtain ⟨p, q, hA0, hV, rfl, _, _⟩ := hW
  have hA : DataW.TrodAll enc Try.prog W 0 (fun _ => true) true Try.f9.params.toList args.toList ds p := hA0
  rw [Try.params9] at hA hval
  obtain ⟨v0, vs0, d0, ds0, p0, q0, hargs, rfl, rfl, h0, r0⟩ := trodAll_cons hA
  obtain ⟨v1, vs1, d1, ds1, p1, q1, rfl, rfl, rfl, h1, r1⟩ := trodAll_cons r0
  obtain ⟨v2, vs2, d2, ds2, p2, q2, rfl, rfl, rfl, h2, r2⟩ := trodAll_cons r1
  obtain ⟨rfl, rfl, rfl⟩ := trodAll_nil r2
  obtain rfl : args = #[v0, v1, v2] := by cases args; simp_all
  obtain ⟨rfl, rfl⟩ := trodVars_none hV
  have k0 := h0
  have lt0 : ∀ x ∈ p0, x.block < W.heap.size := by obtain ⟨m, hm⟩ := k0; exact DataW.trod_lt m _ _ _ hm
  have f0 : TN.Fit 28 d0 := TN.fit_of hsz (j := 0) (by rw [show Try.checked.prog = Try.prog from rfl, Try.params9]; rfl) rfl
  obtain ⟨cs0, rs0, x0⟩ := TN.open_tab (hval 0 28 v0 rfl rfl) h0 f0
  obtain ⟨a1, b1, rfl, rfl, rfl, y1, z1⟩ := open_pair RO.arr2 Try.underlying3 (hval 1 58 v1 rfl rfl) h1
  have oa1 : TN.Ok64 a1 := TN.ok64_of y1
  have ob1 : TN.Ok64 b1 := TN.ok64_of z1
  obtain ⟨i2, rfl, rfl, rfl, x2⟩ := open_int Try.underlying3 (hval 2 3 v2 rfl rfl) h2
  have o2 : TN.Ok64 i2 := TN.ok64_of x2
  clear hA0 hval0
  refine (parts_any x0 oa1 ob1 o2).mono fun e W' ⟨he, bel⟩ => ?_
  subst he
  exact ⟨_, rfl, _, _, _, [], _, [], hW', trodAll_mk1 (shut_bool Try.underlying4 _), (trodAll_cons_mk (Below.trod TN.laidOut (by kernel_rfl) (of_decide_eq_true (by kernel_rfl)) k0 bel lt0) (trodAll_cons_mk (shut_pair RO.arr2 Try.underlying3 y1 z1) (trodAll_cons_mk (shut_int Try.underlying3 x2) trodAll_mk0))), rfl, bel.frame _, fun h => by cases h⟩
end Go.Proofs.Ytcidijjbcebcbaa.RO
namespace Go.Proofs.Ytcidijjbcebcbaa
open Go.ChangeShapes Go.WideShapes Go.ChangeAt Go.WideMaps Go.WideElems Go.RowKit Go.Joins

theorem rowopsParts_said : Rows.RowopsPartsSaid :=
  OpenClaim.holds_of_wide 9 Try.f9 rfl rfl rfl rfl rfl rfl rfl ⟨rfl, rfl, rfl, rfl, rfl⟩ rfl rfl rfl rfl rfl (by kernel_rfl) Try.func9 (by kernel_rfl)
    (of_decide_eq_true (by kernel_rfl)) (by unfold Func.isWrapper; first | (rw [if_pos (by decide +kernel)]; kernel_rfl) | (rw [if_neg (by decide +kernel)]; exact ⟨rfl, rfl⟩))
    (fun os started H enc _ => RO.rowopsParts_lifted os started H enc)

#print axioms rowopsParts_said
end Go.Proofs.Ytcidijjbcebcbaa
