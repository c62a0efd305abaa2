/-
  A number's digits, counted from their first.
-/
import Derived.Test.YtomnjckbgmbgmaaGreatDoorQROneS
namespace Go.Proofs.YtomnjckbgmbgmaaGreatDoor
open Go.RowKit Go.Joins
theorem ten19 (E : List UInt8) (c : UInt8) (t : List UInt8) (hE : E = c :: t) (hd : isDg c = true) (hc : ¬ c.toNat = 48) (hl : 19 < E.length) : 9223372036854775808 < dval E := by
  subst hE
  unfold dval
  rw [dvalF_cons]
  have h1 := dvalF_ge t (dstep 0 c)
  have h2 : 1 ≤ dstep 0 c := by unfold dstep; simp [isDg] at hd; omega
  have h3 : 10 ^ 19 ≤ 10 ^ t.length := Nat.pow_le_pow_right (by decide) (by simp at hl; omega)
  have h4 : 1 * 10 ^ t.length ≤ dstep 0 c * 10 ^ t.length := Nat.mul_le_mul_right _ h2
  have h5 : (10 : Nat) ^ 19 = 10000000000000000000 := by decide
  omega
/-- Whether the reference refuses digits. -/
def badN (l : List UInt8) (m : Nat) : Bool :=
  (decide ((digitsOf l).head? = some 48) && decide (1 < m + sgn1 l)) || decide (19 < m) || !(decide (spanN isWd (digitsOf l) = m))
theorem num_ref {l : List UInt8} {m : Nat} (hm : spanN isDg (digitsOf l) = m) (h0 : 0 < m) :
    numS l = if badN l m then none else (numV (neg1 l) (dval ((digitsOf l).take m))).map (fun v => (⟨2, [], v, 0⟩, m + sgn1 l)) := by
  unfold numS badN
  rw [hm]
  by_cases h1 : spanN isWd (digitsOf l) = m
  · rw [if_neg (by omega), h1]
    by_cases h2 : (digitsOf l).head? = some 48 ∧ 1 < m + sgn1 l
    · rw [if_pos h2]; simp [h2.1, h2.2]
    · rw [if_neg h2]
      by_cases h3 : 19 < m
      · have hb : numV (neg1 l) (dval ((digitsOf l).take m)) = none := by
          have hle := spanN_le isDg (digitsOf l)
          have ht := spanN_take isDg (digitsOf l)
          rw [hm] at hle ht
          generalize digitsOf l = D at *
          obtain ⟨c, t, rfl⟩ : ∃ c t, D = c :: t := by
            cases D with
            | nil => simp at hle; omega
            | cons c t => exact ⟨c, t, rfl⟩
          obtain ⟨m', rfl⟩ : ∃ m', m = m' + 1 := ⟨m - 1, by omega⟩
          refine numV_no _ _ (ten19 _ c (t.take m') rfl (ht c (by simp)) ?_ (by simp at hle ⊢; omega))
          intro h48
          apply h2
          have : c = 48 := UInt8.toNat_inj.1 h48
          subst this
          exact ⟨rfl, by omega⟩
        rw [hb]; simp [h3]
      · have h2' : (decide ((digitsOf l).head? = some 48) && decide (1 < m + sgn1 l)) = false := by
          apply Bool.eq_false_iff.2; intro h; simp at h; exact h2 h
        rw [h2']; simp [h3]
  · rw [if_pos (by right; omega)]; simp [h1]
theorem wd_stop (D : List UInt8) (m : Nat) (hle : m ≤ D.length) (hd : ∀ i (h : i < D.length), i < m → isDg D[i] = true) :
    decide (spanN isWd D = m) = !(decide (m < D.length) && isWd (D.getD m 0)) := by
  by_cases h : m < D.length
  · have hg : D.getD m 0 = D[m] := by rw [List.getD_eq_getElem?_getD, List.getElem?_eq_getElem h]; rfl
    rw [hg, decide_eq_true h]
    cases hx : isWd D[m] with
    | false =>
      rw [decide_eq_true (spanN_is isWd D m hle (fun i hi hm => isDg_isWd (hd i hi hm)) (.inr ⟨h, hx⟩))]; rfl
    | true =>
      have : ¬ spanN isWd D = m := fun e => by
        have := spanN_stop isWd D (by omega)
        simp only [e] at this
        rw [hx] at this; cases this
      simp [this]
  · rw [decide_eq_false h, decide_eq_true (spanN_is isWd D m hle (fun i hi hm => isDg_isWd (hd i hi hm)) (.inl (by omega)))]; rfl
end Go.Proofs.YtomnjckbgmbgmaaGreatDoor
