/-
  Lex of two texts with a blank between.
-/
import Derived.Test.YtomnjckbgmbgmaaGreatDoorQLex
namespace Go.Proofs.YtomnjckbgmbgmaaGreatDoor
open Go.RowKit Go.Joins

theorem bl_wd {b : UInt8} (h : isBl b = true) : isWd b = false := by simp [isBl] at h; simp [isWd]; omega
theorem bl_dg {b : UInt8} (h : isBl b = true) : isDg b = false := by simp [isBl] at h; simp [isDg]; omega
theorem txt_app : ∀ (l m acc : List UInt8) (sl : Bool) (k : Nat) (x : List UInt8 × Nat), txtF acc sl k l = some x → txtF acc sl k (l ++ m) = some x
  | [], m, acc, sl, k, x, h => by simp [txtF] at h
  | c :: r, m, acc, sl, k, x, h => by
    rw [List.cons_append]
    unfold txtF at h ⊢
    split at h
    · cases h
    · rename_i h1
      rw [if_neg h1]
      split at h
      · rename_i h2; rw [if_pos h2]; exact h
      · rename_i h2
        rw [if_neg h2]
        split at h
        · rename_i h3; rw [if_pos h3]; exact txt_app r m _ _ _ _ h
        · rename_i h3; rw [if_neg h3]; exact txt_app r m _ _ _ _ h
theorem sign_app {b c : UInt8} (hb : isBl b = true) (xs r : List UInt8) : signS (c :: xs ++ b :: r) = signS (c :: xs) := by
  have hb61 : ¬ (61 : UInt8) = b := fun e => by subst e; simp [isBl] at hb
  have e : ∀ x ∈ signsL, x.isPrefixOf (c :: xs ++ b :: r) = x.isPrefixOf (c :: xs) := by
    intro x hx
    simp only [signsL, List.mem_cons, List.not_mem_nil, or_false] at hx
    rcases hx with h | h | h | h | h | h | h | h | h | h | h <;> subst h <;> cases xs <;> simp [List.isPrefixOf, hb61]
  unfold signS
  have : signsL.find? (fun x => x.isPrefixOf (c :: xs ++ b :: r)) = signsL.find? (fun x => x.isPrefixOf (c :: xs)) := by
    generalize signsL = L at *
    induction L with
    | nil => rfl
    | cons y L ih =>
      rw [List.find?_cons, List.find?_cons, e y (by simp), ih (fun x hx => e x (by simp [hx]))]
  rw [this]
theorem first_app {xs : List UInt8} {t : Tk} {n : Nat} {b : UInt8} (hb : isBl b = true) (r : List UInt8) (h : firstS xs = some (t, n)) : firstS (xs ++ b :: r) = some (t, n) := by
  have hp := firstS_pos h
  cases xs with
  | nil => simp [firstS] at h
  | cons c xs =>
    rw [List.cons_append]
    unfold firstS at h ⊢
    simp only at h ⊢
    split at h
    · rename_i h1
      rw [if_pos h1]
      unfold wordS at h ⊢
      rw [← List.cons_append, spanN_app isWd b (bl_wd hb)]
      have hle := spanN_le isWd (c :: xs)
      split at h
      · cases h
      · rename_i h2
        rw [if_neg h2, List.take_append_of_le_length hle]; exact h
    · rename_i h1
      rw [if_neg h1]
      split at h
      · rename_i h2
        rw [if_pos h2]
        have hng : neg1 (c :: (xs ++ b :: r)) = neg1 (c :: xs) := rfl
        have hsg : sgn1 (c :: (xs ++ b :: r)) = sgn1 (c :: xs) := rfl
        have hdg : digitsOf (c :: (xs ++ b :: r)) = digitsOf (c :: xs) ++ b :: r := by
          unfold digitsOf; rw [hng]; split <;> rfl
        unfold numS at h ⊢
        rw [hng, hsg, hdg, spanN_app isWd b (bl_wd hb), spanN_app isDg b (bl_dg hb)]
        have hle := spanN_le isDg (digitsOf (c :: xs))
        split at h
        · cases h
        · rename_i h3
          rw [if_neg h3]
          have hne : digitsOf (c :: xs) ≠ [] := fun e => by
            rw [e] at h3; exact h3 (.inl rfl)
          have hh : (digitsOf (c :: xs) ++ b :: r).head? = (digitsOf (c :: xs)).head? := by
            cases hx : digitsOf (c :: xs) with
            | nil => exact absurd hx hne
            | cons y ys => rfl
          rw [hh]
          split at h
          · cases h
          · rename_i h4
            rw [if_neg h4, List.take_append_of_le_length hle]; exact h
      · rename_i h2
        rw [if_neg h2]
        split at h
        · rename_i h3
          rw [if_pos h3]
          unfold textS at h ⊢
          simp only [List.tail_cons] at h ⊢
          split at h
          · rename_i e1
            rw [txt_app xs (b :: r) _ _ _ _ e1]; exact h
          · cases h
        · rename_i h3
          rw [if_neg h3, ← List.cons_append, sign_app hb]; exact h
theorem lexA_app {b : UInt8} (hb : isBl b = true) (r : List UInt8) : ∀ (f : Nat) (xs : List UInt8) (a : Nat) (ts : List Tk), xs.length ≤ f → lexA a xs = .inr ts → lexA a (xs ++ b :: r) = joinT ts (lexA (a + xs.length) (b :: r))
  | _, [], a, ts, _, h => by
    rw [lexA_nil] at h; cases h
    simp only [List.nil_append, List.length_nil, Nat.add_zero]
    cases lexA a (b :: r) <;> rfl
  | 0, c :: xs, a, ts, hf, _ => by simp at hf
  | f + 1, c :: xs, a, ts, hf, h => by
    cases hc : isBl c with
    | true =>
      rw [lexA_bl a xs hc] at h
      rw [List.cons_append, lexA_bl a _ hc, lexA_app hb r f xs (a + 1) ts (by simpa using hf) h]
      simp [Nat.add_assoc, Nat.add_comm 1]
    | false =>
      cases hfi : firstS (c :: xs) with
      | none => rw [lexA_no a hc hfi] at h; cases h
      | some x =>
        obtain ⟨t, n⟩ := x
        have hp := firstS_pos hfi
        rw [lexA_some a hc hfi] at h
        have hfa := first_app hb r hfi
        rw [List.cons_append] at hfa ⊢
        rw [lexA_some a hc hfa, ← List.cons_append, List.drop_append_of_le_length hp.2]
        cases hr : lexA (a + n) ((c :: xs).drop n) with
        | inl e => rw [hr] at h; cases h
        | inr m =>
          rw [hr] at h
          cases h
          rw [lexA_app hb r f _ _ m (by simp at hf ⊢; omega) hr, List.length_drop, show a + n + ((c :: xs).length - n) = a + (c :: xs).length by omega]
          cases lexA (a + (c :: xs).length) (b :: r) <;> rfl
def sig (t : Tk) : Nat × List UInt8 × Int := (t.kind, t.s, t.n)
theorem lexA_move : ∀ (f : Nat) (xs : List UInt8) (a b : Nat) (ts : List Tk), xs.length ≤ f → lexA a xs = .inr ts → ∃ us, lexA b xs = .inr us ∧ us.map sig = ts.map sig
  | _, [], a, b, ts, _, h => by
    rw [lexA_nil] at h; cases h
    exact ⟨[], rfl, rfl⟩
  | 0, c :: xs, a, b, ts, hf, _ => by simp at hf
  | f + 1, c :: xs, a, b, ts, hf, h => by
    cases hc : isBl c with
    | true =>
      rw [lexA_bl a xs hc] at h
      obtain ⟨us, h1, h2⟩ := lexA_move f xs (a + 1) (b + 1) ts (by simpa using hf) h
      exact ⟨us, by rw [lexA_bl b xs hc]; exact h1, h2⟩
    | false =>
      cases hfi : firstS (c :: xs) with
      | none => rw [lexA_no a hc hfi] at h; cases h
      | some x =>
        obtain ⟨t, n⟩ := x
        have hp := firstS_pos hfi
        rw [lexA_some a hc hfi] at h
        cases hr : lexA (a + n) ((c :: xs).drop n) with
        | inl e => rw [hr] at h; cases h
        | inr m =>
          rw [hr] at h
          cases h
          obtain ⟨us, h1, h2⟩ := lexA_move f ((c :: xs).drop n) (a + n) (b + n) m (by simp at hf ⊢; omega) hr
          refine ⟨{ t with at_ := b } :: us, ?_, by simp [h2, sig]⟩
          rw [lexA_some b hc hfi, h1]
theorem lexO_inr {l : List UInt8} {ts : List Tk} {a : Nat} (h : lexO l = (ts, a, 0)) : lexA 0 l = .inr ts := by
  unfold lexO at h
  split at h
  · cases h
  · split at h
    · cases h
    · rename_i e; cases h; exact e
end Go.Proofs.YtomnjckbgmbgmaaGreatDoor
