/-
  Tokens stand one behind the other, within the text.
-/
import Derived.Test.YtceifmnnejlkfaaDoorQShown
namespace Go.Proofs.YtceifmnnejlkfaaDoor
open Go.RowKit Go.Joins

/-- A word or a sign is what the text begins with. -/
theorem firstS_says {xs : List UInt8} {t : Tk} {n : Nat} (h : firstS xs = some (t, n)) : 1 ≤ t.kind ∧ t.kind ≤ 4 ∧ ((t.kind = 1 ∨ t.kind = 4) → t.s.length ≤ xs.length ∧ xs.take t.s.length = t.s) := by
  unfold firstS at h
  split at h
  · cases h
  · rename_i c r
    split at h
    · unfold wordS at h
      split at h
      · cases h
      · cases h
        have hs := spanN_le isWd (c :: r)
        refine ⟨by simp, by simp, fun _ => ?_⟩
        simp only [List.length_take]
        generalize spanN isWd (c :: r) = n at *
        rw [Nat.min_eq_left hs]
        exact ⟨hs, rfl⟩
    · split at h
      · unfold numS at h
        split at h
        · cases h
        · split at h
          · cases h
          · obtain ⟨v, -, h⟩ := Option.map_eq_some_iff.1 h
            cases h
            exact ⟨by simp, by simp, fun h => by simp at h⟩
      · split at h
        · unfold textS at h
          split at h
          · cases h
            exact ⟨by simp, by simp, fun h => by simp at h⟩
          · cases h
        · unfold signS at h
          split at h
          · rename_i x e
            cases h
            obtain ⟨h1, h2⟩ := find_sign e
            have h3 := List.isPrefixOf_iff_prefix.1 h2
            refine ⟨by simp, by simp, fun _ => ⟨h3.length_le, ?_⟩⟩
            exact (List.prefix_iff_eq_take.1 h3).symm
          · cases h
def Pl (L : List UInt8) : Nat → List Tk → Prop
  | _, [] => True
  | a, t :: r => a ≤ t.at_ ∧ t.at_ < L.length ∧ 1 ≤ t.kind ∧ t.kind ≤ 4 ∧ ((t.kind = 1 ∨ t.kind = 4) → t.at_ + t.s.length ≤ L.length ∧ (L.drop t.at_).take t.s.length = t.s) ∧ Pl L (t.at_ + 1) r
theorem Pl.mono {L : List UInt8} {a b : Nat} {ts : List Tk} (h : Pl L a ts) (hb : b ≤ a) : Pl L b ts := by
  cases ts with
  | nil => trivial
  | cons t r => exact ⟨Nat.le_trans hb h.1, h.2⟩
theorem lex_pl (L : List UInt8) : ∀ (f : Nat) (xs : List UInt8) (a : Nat) (ts : List Tk), xs.length ≤ f → lexA a xs = .inr ts → L.drop a = xs → Pl L a ts
  | _, [], a, ts, _, h, _ => by
    rw [lexA_nil] at h; cases h; trivial
  | 0, c :: r, a, ts, hf, _, _ => by simp at hf
  | f + 1, c :: r, a, ts, hf, h, hL => by
    have hlen : L.length = a + (r.length + 1) := by
      have := congrArg List.length hL; simp at this; omega
    cases hb : isBl c with
    | true =>
      rw [lexA_bl a r hb] at h
      refine (lex_pl L f r (a + 1) ts (by simpa using hf) h ?_).mono (by omega)
      rw [← List.drop_drop, hL]; rfl
    | false =>
      cases hfi : firstS (c :: r) with
      | none => rw [lexA_no a hb hfi] at h; cases h
      | some x =>
        obtain ⟨t, n⟩ := x
        have hp := firstS_pos hfi
        obtain ⟨k1, k2, k3⟩ := firstS_says hfi
        rw [lexA_some a hb hfi] at h
        cases hr : lexA (a + n) ((c :: r).drop n) with
        | inl e => rw [hr] at h; cases h
        | inr m =>
          rw [hr] at h
          cases h
          have ih := lex_pl L f ((c :: r).drop n) (a + n) m (by simp at hf ⊢; omega) hr (by rw [← hL, List.drop_drop])
          refine ⟨Nat.le_refl _, by show a < L.length; omega, k1, k2, fun hk => ?_, ih.mono (by show a + 1 ≤ _; omega)⟩
          obtain ⟨k4, k5⟩ := k3 hk
          show a + t.s.length ≤ L.length ∧ (L.drop a).take t.s.length = t.s
          rw [hL]
          exact ⟨by simp at k4; omega, k5⟩
/-- The same, place by place. -/
def Plc (L : List UInt8) (ts : List Tk) : Prop := ∀ i (h : i < ts.length), ts[i].at_ < L.length ∧ 1 ≤ ts[i].kind ∧ ts[i].kind ≤ 4 ∧ ((ts[i].kind = 1 ∨ ts[i].kind = 4) → ts[i].at_ + ts[i].s.length ≤ L.length ∧ (L.drop ts[i].at_).take ts[i].s.length = ts[i].s) ∧ ∀ (j : Nat) (hj : j + 1 = i), ts[j].at_ < ts[i].at_
theorem Pl.get {L : List UInt8} : ∀ {ts : List Tk} {a : Nat}, Pl L a ts → Plc L ts
  | [], _, _, i, h => by simp at h
  | t :: r, a, hp, 0, h => ⟨hp.2.1, hp.2.2.1, hp.2.2.2.1, hp.2.2.2.2.1, fun j hj => by omega⟩
  | t :: r, a, hp, i + 1, h => by
    have hr := hp.2.2.2.2.2
    obtain ⟨a1, a2, a3, a4, a5⟩ := Pl.get hr i (by simpa using h)
    refine ⟨a1, a2, a3, a4, fun j hj => ?_⟩
    obtain rfl : j = i := by omega
    cases j with
    | zero =>
      cases r with
      | nil => simp at h
      | cons u r' => have := hr.1; show t.at_ < u.at_; omega
    | succ j' => exact a5 j' rfl
theorem lex_err : ∀ (f : Nat) (xs : List UInt8) (b a : Nat), xs.length ≤ f → lexA b xs = .inl a → a < b + xs.length
  | _, [], b, a, _, h => by rw [lexA_nil] at h; cases h
  | 0, c :: r, b, a, hf, _ => by simp at hf
  | f + 1, c :: r, b, a, hf, h => by
    cases hb : isBl c with
    | true =>
      rw [lexA_bl b r hb] at h
      have := lex_err f r (b + 1) a (by simpa using hf) h
      simp; omega
    | false =>
      cases hfi : firstS (c :: r) with
      | none => rw [lexA_no b hb hfi] at h; cases h; simp
      | some x =>
        obtain ⟨t, n⟩ := x
        have hp := firstS_pos hfi
        rw [lexA_some b hb hfi] at h
        cases hr : lexA (b + n) ((c :: r).drop n) with
        | inl e =>
          rw [hr] at h
          cases h
          have := lex_err f ((c :: r).drop n) (b + n) a (by simp at hf ⊢; omega) hr
          rw [List.length_drop] at this
          omega
        | inr m => rw [hr] at h; cases h
theorem lexO_forms (l : List UInt8) : (∃ (a : Nat) (er : Int), lexO l = ([], a, er) ∧ ¬ er = 0 ∧ a ≤ l.length) ∨ ∃ ts, lexO l = (ts, 0, 0) ∧ Plc l ts := by
  by_cases h : 2048 < l.length
  · exact .inl ⟨0, 2, lexO_long h, by decide, Nat.zero_le _⟩
  · cases hx : lexA 0 l with
    | inl a =>
      exact .inl ⟨a, 110, lexO_bad h hx, by decide, by have := lex_err l.length l 0 a (Nat.le_refl _) hx; omega⟩
    | inr ts => exact .inr ⟨ts, lexO_ok h hx, (lex_pl l l.length l 0 ts (Nat.le_refl _) hx rfl).get⟩
end Go.Proofs.YtceifmnnejlkfaaDoor
