/-
  Lex of two texts, the second of which begins with what ends a token.
-/
import Derived.Test.YtomnjckbgmbgmaaGreatDoorQLexB
namespace Go.Proofs.YtomnjckbgmbgmaaGreatDoor
open Go.RowKit Go.Joins

def Sep (b : UInt8) : Prop := isWd b = false ∧ isDg b = false ∧ ¬ (61 : UInt8) = b
theorem sign_sep {b c : UInt8} (hb : Sep b) (xs r : List UInt8) : signS (c :: xs ++ b :: r) = signS (c :: xs) := by
  have hb61 := hb.2.2
  have e : ∀ x ∈ signsL, x.isPrefixOf (c :: xs ++ b :: r) = x.isPrefixOf (c :: xs) := by
    intro x hx
    simp only [signsL, List.mem_cons, List.not_mem_nil, or_false] at hx
    rcases hx with h | h | h | h | h | h | h | h | h | h | h <;> subst h <;> cases xs <;> simp [List.isPrefixOf, hb61]
  unfold signS
  have : signsL.find? (fun x => x.isPrefixOf (c :: xs ++ b :: r)) = signsL.find? (fun x => x.isPrefixOf (c :: xs)) := by
    generalize signsL = L at *
    induction L with
    | nil => rfl
    | cons y L ih =>
      rw [List.find?_cons, List.find?_cons, e y (by simp), ih (fun x hx => e x (by simp [hx]))]
  rw [this]
theorem first_sep {xs : List UInt8} {t : Tk} {n : Nat} {b : UInt8} (hb : Sep b) (r : List UInt8) (h : firstS xs = some (t, n)) : firstS (xs ++ b :: r) = some (t, n) := by
  have hp := firstS_pos h
  cases xs with
  | nil => simp [firstS] at h
  | cons c xs =>
    rw [List.cons_append]
    unfold firstS at h ⊢
    simp only at h ⊢
    split at h
    · rename_i h1
      rw [if_pos h1]
      unfold wordS at h ⊢
      rw [← List.cons_append, spanN_app isWd b (hb.1)]
      have hle := spanN_le isWd (c :: xs)
      split at h
      · cases h
      · rename_i h2
        rw [if_neg h2, List.take_append_of_le_length hle]; exact h
    · rename_i h1
      rw [if_neg h1]
      split at h
      · rename_i h2
        rw [if_pos h2]
        have hng : neg1 (c :: (xs ++ b :: r)) = neg1 (c :: xs) := rfl
        have hsg : sgn1 (c :: (xs ++ b :: r)) = sgn1 (c :: xs) := rfl
        have hdg : digitsOf (c :: (xs ++ b :: r)) = digitsOf (c :: xs) ++ b :: r := by
          unfold digitsOf; rw [hng]; split <;> rfl
        unfold numS at h ⊢
        rw [hng, hsg, hdg, spanN_app isWd b (hb.1), spanN_app isDg b (hb.2.1)]
        have hle := spanN_le isDg (digitsOf (c :: xs))
        split at h
        · cases h
        · rename_i h3
          rw [if_neg h3]
          have hne : digitsOf (c :: xs) ≠ [] := fun e => by
            rw [e] at h3; exact h3 (.inl rfl)
          have hh : (digitsOf (c :: xs) ++ b :: r).head? = (digitsOf (c :: xs)).head? := by
            cases hx : digitsOf (c :: xs) with
            | nil => exact absurd hx hne
            | cons y ys => rfl
          rw [hh]
          split at h
          · cases h
          · rename_i h4
            rw [if_neg h4, List.take_append_of_le_length hle]; exact h
      · rename_i h2
        rw [if_neg h2]
        split at h
        · rename_i h3
          rw [if_pos h3]
          unfold textS at h ⊢
          simp only [List.tail_cons] at h ⊢
          split at h
          · rename_i e1
            rw [txt_app xs (b :: r) _ _ _ _ e1]; exact h
          · cases h
        · rename_i h3
          rw [if_neg h3, ← List.cons_append, sign_sep hb]; exact h
theorem lexA_sep {b : UInt8} (hb : Sep b) (r : List UInt8) : ∀ (f : Nat) (xs : List UInt8) (a : Nat) (ts : List Tk), xs.length ≤ f → lexA a xs = .inr ts → lexA a (xs ++ b :: r) = joinT ts (lexA (a + xs.length) (b :: r))
  | _, [], a, ts, _, h => by
    rw [lexA_nil] at h; cases h
    simp only [List.nil_append, List.length_nil, Nat.add_zero]
    cases lexA a (b :: r) <;> rfl
  | 0, c :: xs, a, ts, hf, _ => by simp at hf
  | f + 1, c :: xs, a, ts, hf, h => by
    cases hc : isBl c with
    | true =>
      rw [lexA_bl a xs hc] at h
      rw [List.cons_append, lexA_bl a _ hc, lexA_sep hb r f xs (a + 1) ts (by simpa using hf) h]
      simp [Nat.add_assoc, Nat.add_comm 1]
    | false =>
      cases hfi : firstS (c :: xs) with
      | none => rw [lexA_no a hc hfi] at h; cases h
      | some x =>
        obtain ⟨t, n⟩ := x
        have hp := firstS_pos hfi
        rw [lexA_some a hc hfi] at h
        have hfa := first_sep hb r hfi
        rw [List.cons_append] at hfa ⊢
        rw [lexA_some a hc hfa, ← List.cons_append, List.drop_append_of_le_length hp.2]
        cases hr : lexA (a + n) ((c :: xs).drop n) with
        | inl e => rw [hr] at h; cases h
        | inr m =>
          rw [hr] at h
          cases h
          rw [lexA_sep hb r f _ _ m (by simp at hf ⊢; omega) hr, List.length_drop, show a + n + ((c :: xs).length - n) = a + (c :: xs).length by omega]
          cases lexA (a + (c :: xs).length) (b :: r) <;> rfl
end Go.Proofs.YtomnjckbgmbgmaaGreatDoor
