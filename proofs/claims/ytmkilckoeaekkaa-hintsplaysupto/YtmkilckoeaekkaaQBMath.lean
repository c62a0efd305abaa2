/-
  Fingerprints as numbers of 256 bits: their words, their bits, how many there are; what stands side by side in a text.
-/

namespace Go.Proofs.Ytmkilckoeaekkaa

abbrev F256 := BitVec 256
def fw (F : F256) (j : Nat) : BitVec 64 := F.extractLsb' (64 * j) 64
def bitn (n : Nat) : F256 := BitVec.twoPow 256 n
theorem fw_bit (F : F256) (j i : Nat) : (fw F j).getLsbD i = (decide (i < 64) && F.getLsbD (64 * j + i)) := by
  unfold fw; rw [BitVec.getLsbD_extractLsb']
theorem f_ext {F G : F256} (h : ∀ n, n < 256 → F.getLsbD n = G.getLsbD n) : F = G := BitVec.eq_of_getLsbD_eq h
theorem fw_ext {F G : F256} (h0 : fw F 0 = fw G 0) (h1 : fw F 1 = fw G 1) (h2 : fw F 2 = fw G 2) (h3 : fw F 3 = fw G 3) : F = G := by
  apply f_ext
  intro n hn
  have hw : ∀ j, fw F j = fw G j → n / 64 = j → F.getLsbD n = G.getLsbD n := by
    intro j e hj
    have h := congrArg (fun x => x.getLsbD (n % 64)) e
    simp only [fw_bit] at h
    rw [show 64 * j + n % 64 = n by omega] at h
    simpa [Nat.mod_lt] using h
  rcases (show n / 64 = 0 ∨ n / 64 = 1 ∨ n / 64 = 2 ∨ n / 64 = 3 by omega) with h | h | h | h
  · exact hw 0 h0 h
  · exact hw 1 h1 h
  · exact hw 2 h2 h
  · exact hw 3 h3 h
theorem bitn_bit (n m : Nat) (hm : m < 256) : (bitn n).getLsbD m = decide (m = n) := by
  unfold bitn; rw [BitVec.getLsbD_twoPow]
  simp [eq_comm]
  intro h; omega
theorem or_bit (F : F256) (n m : Nat) (hm : m < 256) : (F ||| bitn n).getLsbD m = (F.getLsbD m || decide (m = n)) := by
  rw [BitVec.getLsbD_or, bitn_bit n m hm]
def mk4 (a b c d : BitVec 64) : F256 := a.setWidth 256 ||| (b.setWidth 256 <<< 64) ||| (c.setWidth 256 <<< 128) ||| (d.setWidth 256 <<< 192)
theorem fw_mk4 (a b c d : BitVec 64) : fw (mk4 a b c d) 0 = a ∧ fw (mk4 a b c d) 1 = b ∧ fw (mk4 a b c d) 2 = c ∧ fw (mk4 a b c d) 3 = d := by
  have hb : ∀ j, j < 4 → ∀ i, i < 64 → (fw (mk4 a b c d) j).getLsbD i = (a.getLsbD (64 * j + i) || (decide (64 ≤ 64 * j + i) && b.getLsbD (64 * j + i - 64)) || (decide (128 ≤ 64 * j + i) && c.getLsbD (64 * j + i - 128)) || (decide (192 ≤ 64 * j + i) && d.getLsbD (64 * j + i - 192))) := by
    intro j hj i hi
    have h256 : 64 * j + i < 256 := by omega
    rw [fw_bit]
    have e1 : ∀ k, decide (k ≤ 64 * j + i) = !decide (64 * j + i < k) := by
      intro k; by_cases h : k ≤ 64 * j + i
      · rw [decide_eq_true h, decide_eq_false (by omega)]; rfl
      · rw [decide_eq_false h, decide_eq_true (by omega)]; rfl
    simp only [mk4, BitVec.getLsbD_or, BitVec.getLsbD_shiftLeft, BitVec.getLsbD_setWidth, hi, h256, decide_true, Bool.true_and, e1]
    rw [decide_eq_true (show 64 * j + i - 64 < 256 by omega), decide_eq_true (show 64 * j + i - 128 < 256 by omega), decide_eq_true (show 64 * j + i - 192 < 256 by omega)]
    simp
  refine ⟨?_, ?_, ?_, ?_⟩ <;> (apply BitVec.eq_of_getLsbD_eq; intro i hi; rw [hb _ (by omega) i hi])
  · rw [decide_eq_false (show ¬ 64 ≤ 64 * 0 + i by omega), decide_eq_false (show ¬ 128 ≤ 64 * 0 + i by omega), decide_eq_false (show ¬ 192 ≤ 64 * 0 + i by omega)]; simp
  · rw [decide_eq_false (show ¬ 128 ≤ 64 * 1 + i by omega), decide_eq_false (show ¬ 192 ≤ 64 * 1 + i by omega), BitVec.getLsbD_of_ge a _ (by omega), decide_eq_true (show 64 ≤ 64 * 1 + i by omega), show 64 * 1 + i - 64 = i by omega]; simp
  · rw [decide_eq_false (show ¬ 192 ≤ 64 * 2 + i by omega), BitVec.getLsbD_of_ge a _ (by omega), BitVec.getLsbD_of_ge b _ (by omega), decide_eq_true (show 128 ≤ 64 * 2 + i by omega), show 64 * 2 + i - 128 = i by omega]; simp
  · rw [BitVec.getLsbD_of_ge a _ (by omega), BitVec.getLsbD_of_ge b _ (by omega), BitVec.getLsbD_of_ge c _ (by omega), decide_eq_true (show 192 ≤ 64 * 3 + i by omega), show 64 * 3 + i - 192 = i by omega]; simp
theorem fw_or (F G : F256) (j : Nat) : fw (F ||| G) j = fw F j ||| fw G j := by
  apply BitVec.eq_of_getLsbD_eq; intro i hi
  rw [BitVec.getLsbD_or, fw_bit, fw_bit, fw_bit, BitVec.getLsbD_or]; simp [hi]
theorem fw_bitn (n j : Nat) (hj : j < 4) : fw (bitn n) j = if n / 64 = j then BitVec.twoPow 64 (n % 64) else 0 := by
  apply BitVec.eq_of_getLsbD_eq; intro i hi
  rw [fw_bit, bitn_bit _ _ (by omega)]
  split <;> rename_i h
  · rw [BitVec.getLsbD_twoPow]; simp [hi]
    have : (64 * j + i = n) ↔ (n % 64 = i) := by omega
    simp [this, Nat.mod_lt]
  · simp [hi]; omega

/- How many bits there are. -/
def cnt (F : F256) : Nat := (List.range 256).countP (fun n => F.getLsbD n)
def cntTo (F : F256) (k : Nat) : Nat := (List.range k).countP (fun n => F.getLsbD n)
theorem cntTo_zero (F : F256) : cntTo F 0 = 0 := rfl
theorem cntTo_succ (F : F256) (k : Nat) : cntTo F (k + 1) = cntTo F k + (if F.getLsbD k then 1 else 0) := by
  unfold cntTo; rw [List.range_succ, List.countP_append, List.countP_singleton]
theorem cntTo_le (F : F256) (k : Nat) : cntTo F k ≤ k := by
  have := List.countP_le_length (p := fun n => F.getLsbD n) (l := List.range k); simpa [cntTo] using this
theorem cntTo_or (F : F256) (n k : Nat) (hk : k ≤ 256) : cntTo (F ||| bitn n) k ≤ cntTo F k + (if n < k then 1 else 0) := by
  induction k with
  | zero => simp [cntTo]
  | succ k ih =>
    have := ih (by omega)
    rw [cntTo_succ, cntTo_succ, or_bit _ _ _ (by omega)]
    by_cases h : k = n
    · subst h; simp at this ⊢; split <;> omega
    · have h2 : (n < k + 1) ↔ n < k := by omega
      simp only [h, decide_false, Bool.or_false, h2]; omega
theorem cnt_or (F : F256) (n : Nat) : cnt (F ||| bitn n) ≤ cnt F + 1 := by
  have := cntTo_or F n 256 (by omega)
  have h : (if n < 256 then 1 else 0) ≤ 1 := by split <;> omega
  exact Nat.le_trans this (Nat.add_le_add_left h _)
theorem cntTo_mono {F G : F256} (h : ∀ n, n < 256 → F.getLsbD n = true → G.getLsbD n = true) (k : Nat) (hk : k ≤ 256) : cntTo F k ≤ cntTo G k := by
  induction k with
  | zero => simp [cntTo]
  | succ k ih =>
    have := ih (by omega)
    rw [cntTo_succ, cntTo_succ]
    cases hf : F.getLsbD k
    · simp; omega
    · rw [h k (by omega) hf]; simp; omega
theorem cnt_mono {F G : F256} (h : ∀ n, n < 256 → F.getLsbD n = true → G.getLsbD n = true) : cnt F ≤ cnt G := cntTo_mono h 256 (by omega)
/- Within. -/
def wit (F G : F256) : Bool := F ||| G == G
theorem wit_iff {F G : F256} : wit F G = true ↔ ∀ n, n < 256 → F.getLsbD n = true → G.getLsbD n = true := by
  unfold wit; rw [beq_iff_eq]
  constructor
  · intro h n hn hf
    rw [← h, BitVec.getLsbD_or, hf]; rfl
  · intro h
    apply f_ext; intro n hn
    rw [BitVec.getLsbD_or]
    cases hf : F.getLsbD n
    · rfl
    · rw [h n hn hf]; rfl
theorem cnt_wit {F G : F256} (h : wit F G = true) : cnt F ≤ cnt G := cnt_mono (wit_iff.1 h)
/- A text's marks. -/
def tri (xs : List UInt8) (k : Nat) : Nat := (961 * (xs.getD k 0).toNat + 31 * (xs.getD (k + 1) 0).toNat + (xs.getD (k + 2) 0).toNat) % 256
theorem tri_lt (xs : List UInt8) (k : Nat) : tri xs k < 256 := Nat.mod_lt _ (by omega)
def ofTo (xs : List UInt8) : Nat → F256
  | 0 => 0
  | k + 1 => ofTo xs k ||| bitn (tri xs k)
def ofS (xs : List UInt8) : F256 := ofTo xs (xs.length - 2)
theorem ofTo_bit (xs : List UInt8) (k n : Nat) (hn : n < 256) : (ofTo xs k).getLsbD n = true ↔ ∃ i, i < k ∧ tri xs i = n := by
  induction k with
  | zero => simp [ofTo]
  | succ k ih =>
    rw [ofTo, or_bit _ _ _ hn, Bool.or_eq_true, ih, decide_eq_true_iff]
    constructor
    · rintro (⟨i, hi, h⟩ | h)
      · exact ⟨i, by omega, h⟩
      · exact ⟨k, by omega, h.symm⟩
    · rintro ⟨i, hi, h⟩
      by_cases hk : i = k
      · subst hk; exact .inr h.symm
      · exact .inl ⟨i, by omega, h⟩
theorem ofS_bit (xs : List UInt8) (n : Nat) (hn : n < 256) : (ofS xs).getLsbD n = true ↔ ∃ i, i + 2 < xs.length ∧ tri xs i = n := by
  unfold ofS; rw [ofTo_bit _ _ _ hn]
  constructor <;> (rintro ⟨i, hi, h⟩; exact ⟨i, by omega, h⟩)
theorem ofS_short {xs : List UInt8} (h : xs.length < 3) : ofS xs = 0 := by unfold ofS; rw [show xs.length - 2 = 0 by omega]; rfl
theorem tri_mid (p q r : List UInt8) (i : Nat) (hi : i + 2 < q.length) : tri (p ++ (q ++ r)) (p.length + i) = tri q i := by
  have g : ∀ j, j < q.length → (p ++ (q ++ r)).getD (p.length + j) 0 = q.getD j 0 := by
    intro j hj
    simp [List.getD, List.getElem?_append_right, List.getElem?_append_left hj]
  unfold tri
  rw [show p.length + i + 1 = p.length + (i + 1) by omega, show p.length + i + 2 = p.length + (i + 2) by omega, g i (by omega), g (i + 1) (by omega), g (i + 2) hi]
theorem part_wit (p q r : List UInt8) : wit (ofS q) (ofS (p ++ (q ++ r))) = true := by
  rw [wit_iff]; intro n hn h
  obtain ⟨i, hi, e⟩ := (ofS_bit _ _ hn).1 h
  exact (ofS_bit _ _ hn).2 ⟨p.length + i, by simp; omega, by rw [tri_mid p q r i hi]; exact e⟩
theorem wit_or {F G H : F256} (h1 : wit F H = true) (h2 : wit G H = true) : wit (F ||| G) H = true := by
  rw [wit_iff] at *
  intro n hn h
  rw [BitVec.getLsbD_or, Bool.or_eq_true] at h
  exact h.elim (h1 n hn) (h2 n hn)
theorem wit_left (F G : F256) : wit F (F ||| G) = true := by
  rw [wit_iff]; intro n _ h; rw [BitVec.getLsbD_or, h]; rfl
theorem wit_right (F G : F256) : wit G (F ||| G) = true := by
  rw [wit_iff]; intro n _ h; rw [BitVec.getLsbD_or, h]; simp
theorem behind_wit (s t : List UInt8) : wit (ofS s ||| ofS t) (ofS (s ++ t)) = true := by
  refine wit_or ?_ ?_
  · have := part_wit [] s t; simpa using this
  · have := part_wit s t []; simpa using this
theorem behind_cnt (s t : List UInt8) : cnt (ofS (s ++ t)) ≤ cnt (ofS s ||| ofS t) + 2 := by
  have h : cnt (ofS (s ++ t)) ≤ cnt (ofS s ||| ofS t ||| bitn (tri (s ++ t) (s.length - 2)) ||| bitn (tri (s ++ t) (s.length - 1))) := by
    apply cnt_mono
    intro n hn h
    obtain ⟨i, hi, e⟩ := (ofS_bit _ _ hn).1 h
    rw [List.length_append] at hi
    rw [or_bit _ _ _ hn, or_bit _ _ _ hn, BitVec.getLsbD_or]
    by_cases h1 : i + 2 < s.length
    · have hb : (ofS s).getLsbD n = true := (ofS_bit _ _ hn).2 ⟨i, h1, by have := tri_mid [] s t i h1; simp at this; rw [← this]; exact e⟩
      rw [hb]; simp
    · by_cases h2 : i < s.length
      · rcases (show i = s.length - 2 ∨ i = s.length - 1 by omega) with rfl | rfl
        · rw [e]; simp
        · rw [e]; simp
      · have hb : (ofS t).getLsbD n = true := (ofS_bit _ _ hn).2 ⟨i - s.length, by omega, by have := tri_mid s t [] (i - s.length) (by omega); simp [show s.length + (i - s.length) = i by omega] at this; rw [← this]; exact e⟩
        rw [hb]; simp
  have h1 := cnt_or (ofS s ||| ofS t) (tri (s ++ t) (s.length - 2))
  have h2 := cnt_or (ofS s ||| ofS t ||| bitn (tri (s ++ t) (s.length - 2))) (tri (s ++ t) (s.length - 1))
  omega
theorem cnt_zero : cnt 0 = 0 := by
  have : ∀ k, cntTo 0 k = 0 := by
    intro k; induction k with
    | zero => rfl
    | succ k ih => rw [cntTo_succ, ih]; simp
  exact this 256
theorem cnt_three {xs : List UInt8} (h : xs.length = 3) : cnt (ofS xs) = 1 := by
  have e : ofS xs = 0 ||| bitn (tri xs 0) := by unfold ofS; rw [h]; rfl
  have h1 : cnt (ofS xs) ≤ 1 := by rw [e]; have := cnt_or 0 (tri xs 0); rw [cnt_zero] at this; exact this
  have h2 : 1 ≤ cnt (ofS xs) := by
    unfold cnt
    exact List.countP_pos_iff.2 ⟨tri xs 0, List.mem_range.2 (tri_lt _ _), (ofS_bit _ _ (tri_lt _ _)).2 ⟨0, by omega, rfl⟩⟩
  omega
end Go.Proofs.Ytmkilckoeaekkaa
