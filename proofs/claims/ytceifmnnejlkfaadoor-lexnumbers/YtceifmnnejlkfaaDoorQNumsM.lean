/-
  A number's digits are cut as this number alone.
-/
import Derived.Test.YtceifmnnejlkfaaDoorQDigits
import Derived.Test.YtceifmnnejlkfaaDoorQLex
namespace Go.Proofs.YtceifmnnejlkfaaDoor
open Go.RowKit Go.Joins Go.Sort

theorem head_app {a b : List UInt8} (h : a ≠ []) : (a ++ b).head? = a.head? := by
  cases a with
  | nil => exact absurd rfl h
  | cons c r => rfl
theorem dec_facts (u : Nat) : (∀ x ∈ Lib.decDigits u, isDg x = true) ∧ Lib.decDigits u ≠ [] ∧ dval (Lib.decDigits u) = u ∧ ((Lib.decDigits u).head? = some 48 → u = 0) := by
  induction u using Nat.strongRecOn with
  | ind u ih =>
    by_cases h : u < 10
    · have e : Lib.decDigits u = [digC u] := by rw [Lib.decDigits, dif_pos h]; rfl
      have ht := digC_toNat h
      rw [e]
      refine ⟨?_, by simp, ?_, ?_⟩
      · intro x hx
        simp at hx; subst hx
        simp [isDg, ht]; omega
      · simp [dval, dvalF, dstep, ht]
      · intro hh
        simp at hh
        rw [hh] at ht
        have : (48 : UInt8).toNat = 48 := rfl
        omega
    · have e := dec_step h
      obtain ⟨i1, i2, i3, i4⟩ := ih (u / 10) (by omega)
      have ht := digC_toNat (d := u % 10) (by omega)
      rw [e]
      refine ⟨?_, by simp, ?_, ?_⟩
      · intro x hx
        simp only [List.mem_append, List.mem_singleton] at hx
        rcases hx with hx | hx
        · exact i1 x hx
        · subst hx; simp [isDg, ht]; omega
      · unfold dval at i3 ⊢
        rw [dvalF_append, i3, dvalF_cons, dvalF_nil]
        unfold dstep
        rw [ht]; omega
      · intro hh
        rw [head_app i2] at hh
        have := i4 hh
        omega
/-- What stands behind a number: nothing, or a byte that is none of a word. -/
def Ends (r : List UInt8) : Prop := ∀ c ∈ r.head?, isWd c = false
theorem span_ends (p : UInt8 → Bool) (hp : ∀ c, p c = true → isWd c = true) (ds r : List UInt8) (hd : ∀ x ∈ ds, p x = true) (hr : Ends r) : spanN p (ds ++ r) = ds.length := by
  cases r with
  | nil => rw [List.append_nil]; exact spanN_allp p ds hd
  | cons c r =>
    have hc : p c = false := by
      cases h : p c with
      | false => rfl
      | true => have := hr c (by simp); rw [hp c h] at this; cases this
    rw [spanN_app p c hc]; exact spanN_allp p ds hd
theorem num_first (n : Int) (hn : In64 n) (r : List UInt8) (hr : Ends r) : firstS (Lib.itoa n ++ r) = some (⟨2, [], n, 0⟩, (Lib.itoa n).length) := by
  obtain ⟨h1, h2⟩ := hn
  by_cases hneg : n < 0
  · have e : Lib.itoa n = 45 :: Lib.decDigits n.natAbs := by unfold Lib.itoa; rw [if_pos hneg]
    obtain ⟨d1, d2, d3, d4⟩ := dec_facts n.natAbs
    rw [e]
    generalize Lib.decDigits n.natAbs = D at *
    have ef : firstS (45 :: D ++ r) = numS (45 :: (D ++ r)) := by simp [firstS, isLe]
    have ng : neg1 (45 :: (D ++ r)) = true := rfl
    have dg : digitsOf (45 :: (D ++ r)) = D ++ r := rfl
    have sg : sgn1 (45 :: (D ++ r)) = 1 := rfl
    have s1 := span_ends isDg (fun c h => isDg_isWd h) D r d1 hr
    have s2 := span_ends isWd (fun c h => h) D r (fun x hx => isDg_isWd (d1 x hx)) hr
    have hl : 0 < D.length := List.length_pos_iff.2 d2
    have hh : (D ++ r).head? = D.head? := head_app d2
    rw [ef]
    unfold numS
    rw [dg, ng, sg, s1, s2, hh, if_neg (by omega), if_neg ?_, List.take_left' rfl, d3]
    · have : numV true n.natAbs = some n := by
        unfold numV
        rw [if_pos rfl, if_pos (by omega)]
        congr 1; omega
      rw [this]; simp
    · rintro ⟨h3, -⟩
      have := d4 h3; omega
  · have e : Lib.itoa n = Lib.decDigits n.toNat := by unfold Lib.itoa; rw [if_neg hneg]
    obtain ⟨d1, d2, d3, d4⟩ := dec_facts n.toNat
    have d5 : n.toNat = 0 → (Lib.decDigits n.toNat).length = 1 := fun h => by rw [h, Lib.decDigits]; rfl
    rw [e]
    generalize Lib.decDigits n.toNat = D at *
    obtain ⟨c, t, rfl⟩ : ∃ c t, D = c :: t := by
      cases D with
      | nil => exact absurd rfl d2
      | cons c t => exact ⟨c, t, rfl⟩
    have hc := d1 c (by simp)
    have hcl : isLe c = false := by simp [isDg] at hc; simp [isLe]; omega
    have ef : firstS (c :: t ++ r) = numS (c :: t ++ r) := by
      show (if isLe c then _ else _) = _
      rw [hcl, if_neg (by simp), hc, Bool.or_true, if_pos rfl]; rfl
    have hc45 : ¬ c = 45 := fun h => by subst h; simp [isDg] at hc
    have ng : neg1 (c :: t ++ r) = false := by simp [neg1, hc45]
    have dg : digitsOf (c :: t ++ r) = c :: t ++ r := by unfold digitsOf; rw [ng]; rfl
    have sg : sgn1 (c :: t ++ r) = 0 := by unfold sgn1; rw [ng]; rfl
    have s1 := span_ends isDg (fun c h => isDg_isWd h) (c :: t) r d1 hr
    have s2 := span_ends isWd (fun c h => h) (c :: t) r (fun x hx => isDg_isWd (d1 x hx)) hr
    have hh : (c :: t ++ r).head? = (c :: t).head? := rfl
    rw [ef]
    unfold numS
    rw [dg, ng, sg, s1, s2, hh, if_neg (by simp), if_neg ?_, List.take_left' rfl, d3]
    · have : numV false n.toNat = some n := by
        unfold numV
        rw [if_neg Bool.false_ne_true, if_pos (by omega)]
        congr 1; omega
      rw [this]; simp
    · rintro ⟨h3, h4⟩
      have := d5 (d4 h3); omega
theorem itoa_cons (n : Int) : ∃ c t, Lib.itoa n = c :: t ∧ isBl c = false := by
  unfold Lib.itoa
  split
  · exact ⟨45, _, rfl, by decide⟩
  · obtain ⟨d1, d2, -, -⟩ := dec_facts n.toNat
    cases h : Lib.decDigits n.toNat with
    | nil => exact absurd h d2
    | cons c t =>
      refine ⟨c, t, rfl, ?_⟩
      have := d1 c (by rw [h]; simp)
      simp [isDg] at this
      simp [isBl]; omega
theorem num_lex (n : Int) (hn : In64 n) : lexO (Lib.itoa n) = ([⟨2, [], n, 0⟩], 0, 0) := by
  have hl := Lib.itoa_length_le n hn.1 hn.2
  have hf := num_first n hn [] (fun c h => by simp at h)
  rw [List.append_nil] at hf
  obtain ⟨c, t, e, hb⟩ := itoa_cons n
  refine lexO_ok (by omega) ?_
  rw [e] at hf ⊢
  rw [lexA_some 0 hb hf, List.drop_length, lexA_nil]
theorem num_lex2 (n : Int) (hn : In64 n) : lexO ([60, 61] ++ Lib.itoa n ++ [41]) = ([⟨4, [60, 61], 0, 0⟩, ⟨2, [], n, 2⟩, ⟨4, [41], 0, 2 + (Lib.itoa n).length⟩], 0, 0) := by
  have hl := Lib.itoa_length_le n hn.1 hn.2
  have hf := num_first n hn [41] (fun c h => by simp at h; subst h; decide)
  obtain ⟨c, t, e, hb⟩ := itoa_cons n
  refine lexO_ok (by simp; omega) ?_
  have f1 : firstS (60 :: 61 :: (Lib.itoa n ++ [41])) = some (⟨4, [60, 61], 0, 0⟩, 2) := by
    simp [firstS, isLe, isDg, signS, signsL, List.find?, List.isPrefixOf]
  have g1 : lexA (2 + (Lib.itoa n).length) [41] = .inr [⟨4, [41], 0, 2 + (Lib.itoa n).length⟩] := by
    rw [lexA_some _ (by decide) (show firstS [41] = some (⟨4, [41], 0, 0⟩, 1) by decide)]; rfl
  have g2 : lexA 2 (Lib.itoa n ++ [41]) = .inr [⟨2, [], n, 2⟩, ⟨4, [41], 0, 2 + (Lib.itoa n).length⟩] := by
    rw [e] at hf ⊢
    rw [List.cons_append] at hf ⊢
    rw [lexA_some 2 hb hf, ← List.cons_append, ← e, List.drop_left' rfl, g1]
  show lexA 0 (60 :: 61 :: (Lib.itoa n ++ [41])) = _
  rw [lexA_some 0 (by decide) f1]
  show (match lexA 2 (Lib.itoa n ++ [41]) with | .inl e => _ | .inr l => _) = _
  rw [g2]
end Go.Proofs.YtceifmnnejlkfaaDoor
