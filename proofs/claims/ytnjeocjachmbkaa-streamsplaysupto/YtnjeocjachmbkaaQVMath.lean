/-
  A value's bytes, there and back.
-/
import Derived.Test.YtnjeocjachmbkaaPJ
namespace Go.Proofs.Ytnjeocjachmbkaa
open Go.RowKit Go.Sort

def Rg (n : Int) : Prop := -9223372036854775808 ≤ n ∧ n ≤ 9223372036854775807
structure Rng (x : Vl) : Prop where
  n : Rg x.n
  h0 : Rg x.h0
  h1 : Rg x.h1
  h2 : Rg x.h2
  h3 : Rg x.h3
  h4 : Rg x.h4
  h5 : Rg x.h5
  h6 : Rg x.h6
  h7 : Rg x.h7
theorem dig_one {n : Int} (h0 : 0 ≤ n) (h1 : n < 256) : ((dig n 0).toNat : Int) = n := by
  rw [dig_nat]; simp; omega
theorem bigB_one (c : UInt8) : bigB (c.toNat : Int) 1 = [c] := by
  have hc := c.toNat_lt
  show [dig (c.toNat : Int) 0] = [c]
  congr 1
  apply UInt8.toNat_inj.1
  have := dig_one (n := (c.toNat : Int)) (by omega) (by omega)
  omega
theorem mk_list (s : ByteArray) : (⟨s.data.toList.toArray⟩ : ByteArray) = s := rfl
theorem zeroH_iff {a0 a1 a2 a3 a4 a5 a6 a7 : Int} (h : zeroH a0 a1 a2 a3 a4 a5 a6 a7 = true) : a0 = 0 ∧ a1 = 0 ∧ a2 = 0 ∧ a3 = 0 ∧ a4 = 0 ∧ a5 = 0 ∧ a6 = 0 ∧ a7 = 0 := by
  simpa [zeroH, eqH] using h
theorem valid_kind {x : Vl} (h : validL x = true) : (x.k = 1 ∧ x.s = noText ∧ zeroH x.h0 x.h1 x.h2 x.h3 x.h4 x.h5 x.h6 x.h7 = true) ∨ (x.k = 2 ∧ x.n = 0 ∧ zeroH x.h0 x.h1 x.h2 x.h3 x.h4 x.h5 x.h6 x.h7 = true ∧ x.s.size ≤ 64) ∨
    (x.k = 3 ∧ (x.n = 0 ∨ x.n = 1) ∧ x.s = noText ∧ zeroH x.h0 x.h1 x.h2 x.h3 x.h4 x.h5 x.h6 x.h7 = true) ∨ (x.k = 4 ∧ x.n = 0 ∧ x.s = noText) := by
  unfold validL validB at h
  split at h
  · simp only [Bool.and_eq_true, decide_eq_true_eq] at h; exact .inl ⟨by assumption, h⟩
  · split at h
    · simp only [Bool.and_eq_true, decide_eq_true_eq] at h; exact .inr (.inl ⟨by assumption, h.1, h.2.1, h.2.2⟩)
    · split at h
      · simp only [Bool.and_eq_true, decide_eq_true_eq] at h; exact .inr (.inr (.inl ⟨by assumption, h.1, h.2.1, h.2.2⟩))
      · split at h
        · simp only [Bool.and_eq_true, decide_eq_true_eq] at h; exact .inr (.inr (.inr ⟨by assumption, h.1, h.2⟩))
        · cases h
theorem take_left8 {a b : List UInt8} (h : a.length = 8) : (a ++ b).take 8 = a := by rw [← h]; exact List.take_left
theorem drop_left8 {a b : List UInt8} (h : a.length = 8) : (a ++ b).drop 8 = b := by rw [← h]; exact List.drop_left
theorem bkt_zero {n : Int} {b : List UInt8} (h : Rg n) : bkt (bigB n 8 ++ b) 0 = n := by
  unfold bkt
  rw [Nat.mul_zero, List.drop_zero, take_left8 (bigB_len _ _)]
  exact numB_bigB8 h.1 h.2
theorem bkt_succ {n : Int} {b : List UInt8} (i : Nat) : bkt (bigB n 8 ++ b) (i + 1) = bkt b i := by
  unfold bkt
  rw [show 8 * (i + 1) = 8 + 8 * i by omega, ← List.drop_drop, drop_left8 (bigB_len _ _)]
theorem hisB_cons (a : Int) (l : List Int) : hisB (a :: l) = bigB a 8 ++ hisB l := rfl
theorem takeV_valB {x : Vl} {r : List UInt8} (hv : validL x = true) (hr : Rng x) : takeV x.k (valB x ++ r) = some (x, r) := by
  rcases valid_kind hv with ⟨hk, hs, hz⟩ | ⟨hk, hn, hz, hs⟩ | ⟨hk, hn, hs, hz⟩ | ⟨hk, hn, hs⟩
  · obtain ⟨z0, z1, z2, z3, z4, z5, z6, z7⟩ := zeroH_iff hz
    rw [valB_1 hk, hk]
    unfold takeV
    rw [if_pos rfl, if_pos (by rw [List.length_append, bigB_len]; omega), drop_left8 (bigB_len _ _)]
    congr 2
    obtain ⟨k, n, s, a0, a1, a2, a3, a4, a5, a6, a7, sm⟩ := x
    simp only at hk hs z0 z1 z2 z3 z4 z5 z6 z7
    subst hk hs z0 z1 z2 z3 z4 z5 z6 z7
    simp only [vInt, Vl.mk.injEq, and_true, true_and, take_left8 (bigB_len _ _)]
    exact ⟨numB_bigB8 hr.n.1 hr.n.2, rfl⟩
  · obtain ⟨z0, z1, z2, z3, z4, z5, z6, z7⟩ := zeroH_iff hz
    rw [valB_2 hk, hk]
    have hd : (dig (x.s.size : Int) 0).toNat = x.s.size := by
      have := dig_one (n := (x.s.size : Int)) (by omega) (by omega); omega
    have ht : txtB x.s ++ r = dig (x.s.size : Int) 0 :: (x.s.data.toList ++ r) := rfl
    have hlen : x.s.data.toList.length = x.s.size := by rw [Array.length_toList]; rfl
    rw [ht]
    unfold takeV
    rw [if_neg (by decide), if_pos rfl]
    simp only [hd]
    rw [if_pos ⟨by rw [List.length_append, hlen]; omega, hs⟩, show (x.s.data.toList ++ r).drop x.s.size = r by rw [← hlen]; exact List.drop_left]
    congr 2
    have htk : (x.s.data.toList ++ r).take (dig (x.s.size : Int) 0).toNat = x.s.data.toList := by rw [hd, ← hlen]; exact List.take_left
    obtain ⟨k, n, s, a0, a1, a2, a3, a4, a5, a6, a7, sm⟩ := x
    simp only at hk hn z0 z1 z2 z3 z4 z5 z6 z7 htk
    subst hk hn z0 z1 z2 z3 z4 z5 z6 z7
    simp only [vStr, htk]
  · obtain ⟨z0, z1, z2, z3, z4, z5, z6, z7⟩ := zeroH_iff hz
    rw [valB_3 hk, hk]
    have hn' : 0 ≤ x.n ∧ x.n ≤ 1 := by omega
    have hd := dig_one (n := x.n) (by omega) (by omega)
    have ht : bigB x.n 1 ++ r = dig x.n 0 :: r := rfl
    rw [ht]
    unfold takeV
    rw [if_neg (by decide), if_neg (by decide), if_pos rfl]
    simp only
    rw [if_pos (by omega)]
    congr 2
    obtain ⟨k, n, s, a0, a1, a2, a3, a4, a5, a6, a7, sm⟩ := x
    simp only at hk hs z0 z1 z2 z3 z4 z5 z6 z7 hd
    subst hk hs z0 z1 z2 z3 z4 z5 z6 z7
    simp only [vBool, Vl.mk.injEq, and_true, true_and]
    exact ⟨hd, rfl⟩
  · have h1 : ¬ x.k = 1 := by omega
    have h2 : ¬ x.k = 2 := by omega
    have h3 : ¬ x.k = 3 := by omega
    rw [valB_4 h1 h2 h3, hk]
    have hl : (hisB [x.h0, x.h1, x.h2, x.h3, x.h4, x.h5, x.h6, x.h7]).length = 64 := by rw [hisB_len]; rfl
    unfold takeV
    rw [if_neg (by decide), if_neg (by decide), if_neg (by decide), if_pos rfl, if_pos (by rw [List.length_append, hl]; omega), show (hisB [x.h0, x.h1, x.h2, x.h3, x.h4, x.h5, x.h6, x.h7] ++ r).drop 64 = r by rw [← hl]; exact List.drop_left]
    congr 2
    obtain ⟨k, n, s, a0, a1, a2, a3, a4, a5, a6, a7, sm⟩ := x
    simp only at hk hs hn
    subst hk hs hn
    simp only [vHist, Vl.mk.injEq, true_and, hisB_cons, List.append_assoc]
    refine ⟨rfl, bkt_zero hr.h0, ?_, ?_, ?_, ?_, ?_, ?_, ?_⟩
    · rw [bkt_succ]; exact bkt_zero hr.h1
    · rw [bkt_succ, bkt_succ]; exact bkt_zero hr.h2
    · rw [bkt_succ, bkt_succ, bkt_succ]; exact bkt_zero hr.h3
    · rw [bkt_succ, bkt_succ, bkt_succ, bkt_succ]; exact bkt_zero hr.h4
    · rw [bkt_succ, bkt_succ, bkt_succ, bkt_succ, bkt_succ]; exact bkt_zero hr.h5
    · rw [bkt_succ, bkt_succ, bkt_succ, bkt_succ, bkt_succ, bkt_succ]; exact bkt_zero hr.h6
    · rw [bkt_succ, bkt_succ, bkt_succ, bkt_succ, bkt_succ, bkt_succ, bkt_succ]; exact bkt_zero hr.h7
theorem bkt_back {xs : List UInt8} {i : Nat} (h : 8 * i + 8 ≤ xs.length) : bigB (bkt xs i) 8 = (xs.drop (8 * i)).take 8 := by
  have hl : ((xs.drop (8 * i)).take 8).length = 8 := by simp; omega
  have := bigB_numB (xs := (xs.drop (8 * i)).take 8) (by omega)
  rw [hl] at this
  exact this
theorem his_back (xs : List UInt8) : ∀ (m i : Nat), 8 * (i + m) ≤ xs.length → hisB ((List.range' i m).map (bkt xs)) = (xs.drop (8 * i)).take (8 * m)
  | 0, i, _ => by simp [hisB]
  | m + 1, i, h => by
    rw [List.range'_succ, List.map_cons, hisB_cons, his_back xs m (i + 1) (by omega), bkt_back (by omega), show 8 * (m + 1) = 8 + 8 * m by omega, show 8 * (i + 1) = 8 * i + 8 by omega, ← List.drop_drop, List.take_add]
theorem takeV_back {k : Int} {xs r : List UInt8} {x : Vl} (h : takeV k xs = some (x, r)) : x.k = k ∧ validL x = true ∧ valB x ++ r = xs := by
  unfold takeV at h
  split at h
  · rename_i hk; subst hk
    split at h
    · rename_i hn; cases h
      refine ⟨rfl, by simp [validL, validB, noText, zeroH, eqH], ?_⟩
      rw [valB_1 rfl]
      have hl : (xs.take 8).length = 8 := by simp; omega
      have := bigB_numB (xs := xs.take 8) (by omega)
      rw [hl] at this
      rw [this]; exact List.take_append_drop 8 xs
    · cases h
  · split at h
    · rename_i hk; subst hk
      split at h
      · cases h
      · split at h
        · rename_i c q hn; cases h
          have hsz : (ByteArray.mk (q.take c.toNat).toArray).size = c.toNat := by show (q.take c.toNat).toArray.size = _; simp; omega
          refine ⟨rfl, ?_, ?_⟩
          · have : (ByteArray.mk (q.take c.toNat).toArray).size ≤ 64 := by omega
            simp [validL, validB, zeroH, eqH, this]
          · rw [valB_2 rfl]
            show bigB ((ByteArray.mk (q.take c.toNat).toArray).size : Int) 1 ++ (q.take c.toNat) ++ q.drop c.toNat = c :: q
            rw [hsz, bigB_one, List.append_assoc, List.take_append_drop]; rfl
        · cases h
    · split at h
      · rename_i hk; subst hk
        split at h
        · cases h
        · split at h
          · rename_i c q hn; cases h
            refine ⟨rfl, ?_, ?_⟩
            · have : (c.toNat : Int) = 0 ∨ (c.toNat : Int) = 1 := by omega
              rcases this with e | e <;> simp [validL, validB, noText, zeroH, eqH, e]
            · rw [valB_3 rfl]
              show bigB (c.toNat : Int) 1 ++ _ = c :: _
              rw [bigB_one]; rfl
          · cases h
      · split at h
        · rename_i hk; subst hk
          split at h
          · rename_i hn; cases h
            refine ⟨rfl, by simp [validL, validB, noText], ?_⟩
            rw [valB_4 (show ¬ (4 : Int) = 1 by decide) (show ¬ (4 : Int) = 2 by decide) (show ¬ (4 : Int) = 3 by decide)]
            have := his_back xs 8 0 (by omega)
            rw [Nat.mul_zero, List.drop_zero] at this
            show hisB ((List.range' 0 8).map (bkt xs)) ++ xs.drop 64 = xs
            rw [this]; exact List.take_append_drop 64 xs
          · cases h
        · cases h
theorem takeV_rng {k : Int} {xs r : List UInt8} {x : Vl} (h : takeV k xs = some (x, r)) : Rng x := by
  have z : Rg 0 := by unfold Rg; omega
  unfold takeV at h
  split at h
  · split at h
    · cases h; exact ⟨numB_ok _, z, z, z, z, z, z, z, z⟩
    · cases h
  · split at h
    · split at h
      · cases h
      · split at h
        · cases h; exact ⟨z, z, z, z, z, z, z, z, z⟩
        · cases h
    · split at h
      · split at h
        · cases h
        · split at h
          · rename_i c q hn; cases h; exact ⟨by unfold Rg; show _ ≤ (c.toNat : Int) ∧ (c.toNat : Int) ≤ _; omega, z, z, z, z, z, z, z, z⟩
          · cases h
      · split at h
        · split at h
          · cases h; exact ⟨z, numB_ok _, numB_ok _, numB_ok _, numB_ok _, numB_ok _, numB_ok _, numB_ok _, numB_ok _⟩
          · cases h
        · cases h
end Go.Proofs.Ytnjeocjachmbkaa
