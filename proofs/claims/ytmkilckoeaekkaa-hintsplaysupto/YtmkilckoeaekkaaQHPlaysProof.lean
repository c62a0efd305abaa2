/-
  An index does any calls as the document says, clones and joined ones too: the Go function catchmentlaw10.HintsPlays returns true for every input, and changes none. Condition: the arguments are together of bulk at most 1048576.
-/
import Derived.Test.YtmkilckoeaekkaaQHLaid
import Derived.Test.YtmkilckoeaekkaaQHOpenU
import Derived.Test.YtmkilckoeaekkaaQHPlays
import Derived.Deep.CondSized
import Derived.JoinedCond
namespace Go.Proofs.Ytmkilckoeaekkaa
open Go.ChangeShapes Go.WideShapes Go.ChangeAt Go.WideMaps Go.WideElems Go.RowKit Go.Joins
open Go.ChangeMaps (open_string shut_string)

set_option maxRecDepth 100000 in
theorem hintsPlays_lifted (os : Os) (started : os.Started) (H : Type) (enc : TypeId × Value → H) (F : Stop.Interp) :
    ReturnsInHanded {} Try.checked os 3 .any ((Rows.OpenSpec.upto Rows.hintsPlaysSpec).pre6 enc Try.prog Try.f3 Rows.hintsPlaysUptoRow.domain false) (((Rows.OpenSpec.upto Rows.hintsPlaysSpec).at F).post enc Try.prog Try.f3 false true false false) := by
  refine returnsInHanded_of_cond_sized (C := Try.checked) (s := Rows.OpenSpec.upto Rows.hintsPlaysSpec) (k := Rows.uptoSmall) rfl own started (by kernel_rfl) Try.func3
    (OpenSpec.witness (enc := enc) (C := Try.checked) (s := Rows.OpenSpec.upto Rows.hintsPlaysSpec) (k := Rows.uptoSmall) rfl false ⟨#[], #[.slice none 0 0, .slice none 0 0, .agg #[.slice none 0 0]], []⟩ 8 (by kernel_rfl) (by kernel_rfl) (by kernel_rfl)
      (x := ([.nil, .nil, .agg [.nil]], [], [])) (by kernel_rfl) rfl (by kernel_rfl)) ?_
  intro W base args ds gs before hval0 hW _ hk hsz _
  have hval : ∀ (j : Nat) t v, Try.f3.params[j]? = some t → args[j]? = some v → Value.okWide Try.prog W .any base t v := hval0
  have hW' := hW
  obtain ⟨p, q, hA0, hV, rfl, _, _⟩ := hW
  have hA : DataW.TrodAll enc Try.prog W 0 (fun _ => true) true Try.f3.params.toList args.toList ds p := hA0
  rw [Try.params3] at hA hval
  obtain ⟨v0, vs0, d0, ds0, p0, q0, hargs, rfl, rfl, h0, r0⟩ := trodAll_cons hA
  obtain ⟨v1, vs1, d1, ds1, p1, q1, rfl, rfl, rfl, h1, r1⟩ := trodAll_cons r0
  obtain ⟨v2, vs2, d2, ds2, p2, q2, rfl, rfl, rfl, h2, r2⟩ := trodAll_cons r1
  obtain ⟨rfl, rfl, rfl⟩ := trodAll_nil r2
  obtain rfl : args = #[v0, v1, v2] := by cases args; simp_all
  obtain ⟨rfl, rfl⟩ := trodVars_none hV
  have hbk : Rows.uptoBulk d0 ≤ 1048576 := by
    have h := of_decide_eq_true hk
    have h2 : Rows.uptoBulk d0 ≤ Rows.uptoBulkAll ([d0, d1, d2] ++ []) := (bulk_all _).2 _ (by simp)
    exact Nat.le_trans h2 h
  have k0 := h0
  have lt0 : ∀ x ∈ p0, x.block < W.heap.size := by obtain ⟨m, hm⟩ := k0; exact DataW.trod_lt m _ _ _ hm
  have f0 : Fit 22 d0 := fit_of hsz (j := 0) (by rw [show Try.checked.prog = Try.prog from rfl, Try.params3]; rfl) rfl
  obtain ⟨l0, x0, g0, z0⟩ := open_opsB (hval 0 22 v0 rfl rfl) h0 f0 hbk
  have k1 := h1
  have lt1 : ∀ x ∈ p1, x.block < W.heap.size := by obtain ⟨m, hm⟩ := k1; exact DataW.trod_lt m _ _ _ hm
  have f1 : Fit 23 d1 := fit_of hsz (j := 1) (by rw [show Try.checked.prog = Try.prog from rfl, Try.params3]; rfl) rfl
  obtain ⟨l1, x1⟩ := open_strs (hval 1 23 v1 rfl rfl) h1 f1
  have k2 := h2
  have lt2 : ∀ x ∈ p2, x.block < W.heap.size := by obtain ⟨m, hm⟩ := k2; exact DataW.trod_lt m _ _ _ hm
  have f2 : Fit 26 d2 := fit_of hsz (j := 2) (by rw [show Try.checked.prog = Try.prog from rfl, Try.params3]; rfl) rfl
  obtain ⟨qv2, l2, rfl, x2, s2⟩ := open_query2 (hval 2 26 v2 rfl rfl) h2 f2
  clear hA0 hval0
  refine (plays_any x0 g0 z0 x1 x2 s2).mono fun e W' ⟨he, bel⟩ => ?_
  subst he
  exact ⟨_, rfl, _, _, _, [], _, [], hW', trodAll_mk1 (shut_bool Try.underlying4 _), (trodAll_cons_mk (Below.trod laidOut (by kernel_rfl) (of_decide_eq_true (by kernel_rfl)) k0 bel lt0) (trodAll_cons_mk (Below.trod laidOut (by kernel_rfl) (of_decide_eq_true (by kernel_rfl)) k1 bel lt1) (trodAll_cons_mk (Below.trod laidOut (by kernel_rfl) (of_decide_eq_true (by kernel_rfl)) k2 bel lt2) trodAll_mk0))), rfl, bel.frame _, fun h => by cases h⟩

theorem hintsPlaysUpto_said : Rows.HintsPlaysUptoSaid :=
  OpenClaim.holds_of_cond 3 Try.f3 rfl rfl rfl rfl rfl rfl rfl ⟨rfl, rfl, rfl, rfl, rfl⟩ rfl rfl rfl rfl rfl (by kernel_rfl) Try.func3 (by kernel_rfl)
    (of_decide_eq_true (by kernel_rfl)) (by unfold Func.isWrapper; first | (rw [if_pos (by decide +kernel)]; kernel_rfl) | (rw [if_neg (by decide +kernel)]; exact ⟨rfl, rfl⟩))
    (fun os started H enc _ F => hintsPlays_lifted os started H enc F)

#print axioms hintsPlaysUpto_said
end Go.Proofs.Ytmkilckoeaekkaa
