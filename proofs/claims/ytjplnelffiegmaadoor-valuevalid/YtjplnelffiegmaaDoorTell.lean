/-
  What value.Text returns, for every value; and that two valid values have the same text only if they are the same.
-/
import Derived.Test.YtjplnelffiegmaaDoorHist
namespace Go.Proofs.YtjplnelffiegmaaDoor
open Go.RowKit Go.Joins Go.Sort

/- The text of a value. -/
def textV (k n : Int) (s : ByteArray) (a0 a1 a2 a3 a4 a5 a6 a7 : Int) : List UInt8 :=
  if k = 1 then Lib.itoa n
  else if k = 2 then 34 :: (esc s.data.toList ++ [34])
  else if k = 3 then Lib.formatBool (n == 1)
  else txtTo (nth8 a0 a1 a2 a3 a4 a5 a6 a7) 8 ++ [93]
set_option maxHeartbeats 400000 in
theorem text_hist {n : Int} {s : ByteArray} {a0 a1 a2 a3 a4 a5 a6 a7 : Int} {w : World} (hv : validB 4 n s a0 a1 a2 a3 a4 a5 a6 a7 = true) (hok : ∀ i, i < 8 → In64 (nth8 a0 a1 a2 a3 a4 a5 a6 a7 i)) (ht : Tab w) :
    Calls Tryd.prog 12 #[V 4 n s a0 a1 a2 a3 a4 a5 a6 a7] w fun e w' => e = .returned (.string ⟨(txtTo (nth8 a0 a1 a2 a3 a4 a5 a6 a7) 8 ++ [93]).toArray⟩) ∧ Below w.heap.size w w' := by
  have HT := hid ht
  have HOK := hid hok
  clear ht hok
  go_enter Tryd.func12, Tryd.ntmps12
  go_wp2_with fail
  refine valid_any.mono ?_
  rintro e w1 ⟨rfl, hb⟩
  obtain ⟨hc, hf⟩ := bcell hb
  go_wp2_with fail
  refine (bucketsText_any HOK.out (HT.out.on (((Below.refl _ _).alloc (Nat.le_refl _) _).trans (hb.mono (by go_size))))).mono ?_
  rintro e w2 ⟨rfl, hb2⟩
  replace hb := below_on hb hb2
  clear hb2 hc hf
  go_wp2
  go_ret
  exact ⟨rfl, ((Below.refl _ _).alloc (Nat.le_refl _) _).trans (hb.mono (by go_size))⟩
theorem text_valid {k n : Int} {s : ByteArray} {a0 a1 a2 a3 a4 a5 a6 a7 : Int} {w : World} (hv : validB k n s a0 a1 a2 a3 a4 a5 a6 a7 = true) (hn : In64 n) (hok : ∀ i, i < 8 → In64 (nth8 a0 a1 a2 a3 a4 a5 a6 a7 i)) (ht : Tab w) :
    Calls Tryd.prog 12 #[V k n s a0 a1 a2 a3 a4 a5 a6 a7] w fun e w' => e = .returned (.string ⟨(textV k n s a0 a1 a2 a3 a4 a5 a6 a7).toArray⟩) ∧ Below w.heap.size w w' := by
  by_cases h1 : k = 1
  · subst h1
    simp only [textV]
    exact text_int hv hn.1 hn.2 ht
  · by_cases h2 : k = 2
    · subst h2
      exact text_str hv
    · by_cases h3 : k = 3
      · subst h3
        exact text_bool hv
      · have h4 : k = 4 := by
          apply Classical.byContradiction
          intro h4
          simp [validB, h1, h2, h3, h4] at hv
        subst h4
        exact text_hist hv hok ht
/- The numerals. -/
def isNum (c : UInt8) : Prop := c = 45 ∨ (48 ≤ c.toNat ∧ c.toNat ≤ 57)
def val (l : List UInt8) : Nat := l.foldl (fun a c => 10 * a + (c.toNat - 48)) 0
theorem val_snoc (l : List UInt8) (c : UInt8) : val (l ++ [c]) = 10 * val l + (c.toNat - 48) := by simp [val]
theorem dig_toNat {d : Nat} (h : d < 10) : (UInt8.ofNat (48 + d)).toNat = 48 + d := by
  rw [UInt8.toNat_ofNat']; omega
theorem val_dec (u : Nat) : val (Lib.decDigits u) = u := by
  induction u using Nat.strongRecOn with
  | ind u ih =>
    rw [Lib.decDigits]
    split
    · rename_i h
      simp only [val, List.foldl_cons, List.foldl_nil]
      rw [dig_toNat h]; omega
    · rename_i h
      rw [val_snoc, ih (u / 10) (by omega), dig_toNat (by omega)]; omega
theorem dec_num (u : Nat) : ∀ c ∈ Lib.decDigits u, 48 ≤ c.toNat ∧ c.toNat ≤ 57 := by
  induction u using Nat.strongRecOn with
  | ind u ih =>
    rw [Lib.decDigits]
    split
    · rename_i h
      intro c hc
      obtain rfl := List.mem_singleton.1 hc
      rw [dig_toNat h]; omega
    · rename_i h
      intro c hc
      rw [List.mem_append] at hc
      rcases hc with hc | hc
      · exact ih (u / 10) (by omega) c hc
      · obtain rfl := List.mem_singleton.1 hc
        rw [dig_toNat (by omega)]; omega
theorem dec_ne (u : Nat) : Lib.decDigits u ≠ [] := by
  rw [Lib.decDigits]
  split <;> simp
theorem itoa_num (n : Int) : ∀ c ∈ Lib.itoa n, isNum c := by
  unfold Lib.itoa isNum
  split
  · intro c hc
    rcases List.mem_cons.1 hc with rfl | hc
    · exact Or.inl rfl
    · exact Or.inr (dec_num _ c hc)
  · intro c hc
    exact Or.inr (dec_num _ c hc)
theorem itoa_ne (n : Int) : Lib.itoa n ≠ [] := by
  unfold Lib.itoa
  split
  · simp
  · exact dec_ne _
theorem dec_head45 (u : Nat) (l : List UInt8) : Lib.decDigits u ≠ 45 :: l := by
  intro h
  have := dec_num u 45 (by rw [h]; simp)
  simp at this
theorem itoa_inj {n m : Int} (h : Lib.itoa n = Lib.itoa m) : n = m := by
  unfold Lib.itoa at h
  split at h <;> split at h
  · have h1 := congrArg val (List.cons.inj h).2
    rw [val_dec, val_dec] at h1; omega
  · exact absurd h.symm (dec_head45 _ _)
  · exact absurd h (dec_head45 _ _)
  · have h1 := congrArg val h
    rw [val_dec, val_dec] at h1; omega
theorem split_num {p q r r' : List UInt8} {c d : UInt8} (hp : ∀ x ∈ p, isNum x) (hq : ∀ x ∈ q, isNum x) (hc : ¬ isNum c) (hd : ¬ isNum d) (h : p ++ c :: r = q ++ d :: r') : p = q ∧ c = d ∧ r = r' := by
  induction p generalizing q with
  | nil =>
    cases q with
    | nil => simp at h; exact ⟨rfl, h.1, h.2⟩
    | cons y q => simp at h; exact absurd (h.1 ▸ hq y (by simp)) hc
  | cons x p ih =>
    cases q with
    | nil => simp at h; exact absurd (h.1 ▸ hp x (by simp)) hd
    | cons y q =>
      simp at h
      obtain ⟨rfl, h⟩ := h
      obtain ⟨rfl, h2, h3⟩ := ih (fun z hz => hp z (by simp [hz])) (fun z hz => hq z (by simp [hz])) h
      exact ⟨rfl, h2, h3⟩
theorem not32 : ¬ isNum 32 := by unfold isNum; decide
theorem not93 : ¬ isNum 93 := by unfold isNum; decide
theorem txt_flat (x : Nat → Int) : txtTo x 8 ++ [93] = 91 :: (Lib.itoa (x 0) ++ 32 :: (Lib.itoa (x 1) ++ 32 :: (Lib.itoa (x 2) ++ 32 :: (Lib.itoa (x 3) ++ 32 :: (Lib.itoa (x 4) ++ 32 :: (Lib.itoa (x 5) ++ 32 :: (Lib.itoa (x 6) ++ 32 :: (Lib.itoa (x 7) ++ 93 :: [])))))))) := by
  simp [txtTo, sep]
theorem txt_inj {x y : Nat → Int} (h : txtTo x 8 ++ [93] = txtTo y 8 ++ [93]) : ∀ i, i < 8 → x i = y i := by
  rw [txt_flat, txt_flat] at h
  have h0 := (List.cons.inj h).2
  obtain ⟨e0, _, h1⟩ := split_num (itoa_num _) (itoa_num _) not32 not32 h0
  obtain ⟨e1, _, h2⟩ := split_num (itoa_num _) (itoa_num _) not32 not32 h1
  obtain ⟨e2, _, h3⟩ := split_num (itoa_num _) (itoa_num _) not32 not32 h2
  obtain ⟨e3, _, h4⟩ := split_num (itoa_num _) (itoa_num _) not32 not32 h3
  obtain ⟨e4, _, h5⟩ := split_num (itoa_num _) (itoa_num _) not32 not32 h4
  obtain ⟨e5, _, h6⟩ := split_num (itoa_num _) (itoa_num _) not32 not32 h5
  obtain ⟨e6, _, h7⟩ := split_num (itoa_num _) (itoa_num _) not32 not32 h6
  obtain ⟨e7, _, _⟩ := split_num (itoa_num _) (itoa_num _) not93 not93 h7
  intro i hi
  rcases lt8 hi with rfl | rfl | rfl | rfl | rfl | rfl | rfl | rfl
  · exact itoa_inj e0
  · exact itoa_inj e1
  · exact itoa_inj e2
  · exact itoa_inj e3
  · exact itoa_inj e4
  · exact itoa_inj e5
  · exact itoa_inj e6
  · exact itoa_inj e7
/- The quoted texts. -/
theorem esc_inj {x y : List UInt8} (h : esc x = esc y) : x = y := by
  induction x generalizing y with
  | nil =>
    cases y with
    | nil => rfl
    | cons b y => simp [esc, escC] at h; split at h <;> simp at h
  | cons a x ih =>
    cases y with
    | nil => simp [esc, escC] at h; split at h <;> simp at h
    | cons b y =>
      simp only [esc, escC] at h
      split at h <;> split at h
      · simp at h
        obtain ⟨rfl, h⟩ := h
        rw [ih h]
      · rename_i h1 h2
        simp at h
        exact absurd (Or.inr h.1.symm) h2
      · rename_i h1 h2
        simp at h
        exact absurd (Or.inr h.1) h1
      · simp at h
        obtain ⟨rfl, h⟩ := h
        rw [ih h]
theorem valid_kind {k n : Int} {s : ByteArray} {a0 a1 a2 a3 a4 a5 a6 a7 : Int} (hv : validB k n s a0 a1 a2 a3 a4 a5 a6 a7 = true) : k = 1 ∨ k = 2 ∨ k = 3 ∨ k = 4 := by
  by_cases h1 : k = 1
  · exact Or.inl h1
  · by_cases h2 : k = 2
    · exact Or.inr (Or.inl h2)
    · by_cases h3 : k = 3
      · exact Or.inr (Or.inr (Or.inl h3))
      · by_cases h4 : k = 4
        · exact Or.inr (Or.inr (Or.inr h4))
        · simp [validB, h1, h2, h3, h4] at hv
/- The first byte of a text tells the kind. -/
def kindOf (l : List UInt8) : Int := match l with
  | [] => 0
  | c :: _ => if c = 34 then 2 else if c = 116 ∨ c = 102 then 3 else if c = 91 then 4 else 1
theorem kindOf_num {l : List UInt8} (hn : l ≠ []) (h : ∀ c ∈ l, isNum c) : kindOf l = 1 := by
  cases l with
  | nil => exact absurd rfl hn
  | cons c l =>
    have hc := h c (by simp)
    unfold kindOf
    simp only
    rw [if_neg, if_neg, if_neg]
    · rintro rfl; exact absurd hc (by unfold isNum; decide)
    · rintro (rfl | rfl)
      · exact absurd hc (by unfold isNum; decide)
      · exact absurd hc (by unfold isNum; decide)
    · rintro rfl; exact absurd hc (by unfold isNum; decide)
theorem kind_text {k n : Int} {s : ByteArray} {a0 a1 a2 a3 a4 a5 a6 a7 : Int} (hv : validB k n s a0 a1 a2 a3 a4 a5 a6 a7 = true) : kindOf (textV k n s a0 a1 a2 a3 a4 a5 a6 a7) = k := by
  rcases valid_kind hv with rfl | rfl | rfl | rfl
  · exact kindOf_num (itoa_ne n) (itoa_num n)
  · rfl
  · show kindOf (Lib.formatBool (n == 1)) = 3
    cases n == 1 <;> rfl
  · show kindOf (txtTo _ 8 ++ [93]) = 4
    rw [txt_flat]; rfl
theorem bool_inj {b c : Bool} (h : Lib.formatBool b = Lib.formatBool c) : b = c := by
  cases b <;> cases c <;> first | rfl | exact absurd h (by decide)
theorem data_inj {s t : ByteArray} (h : s.data.toList = t.data.toList) : s = t := by
  apply bytes_toList_inj
  rw [ByteArray.toList_eq, ByteArray.toList_eq]; exact h
theorem text_inj {k n : Int} {s : ByteArray} {a0 a1 a2 a3 a4 a5 a6 a7 : Int} {k' n' : Int} {s' : ByteArray} {b0 b1 b2 b3 b4 b5 b6 b7 : Int} (hv : validB k n s a0 a1 a2 a3 a4 a5 a6 a7 = true) (hv' : validB k' n' s' b0 b1 b2 b3 b4 b5 b6 b7 = true) (h : textV k n s a0 a1 a2 a3 a4 a5 a6 a7 = textV k' n' s' b0 b1 b2 b3 b4 b5 b6 b7) :
    eqV k n s a0 a1 a2 a3 a4 a5 a6 a7 k' n' s' b0 b1 b2 b3 b4 b5 b6 b7 = true := by
  obtain rfl : k = k' := by rw [← kind_text hv, ← kind_text hv', h]
  rcases valid_kind hv with rfl | rfl | rfl | rfl
  · have hn : n = n' := itoa_inj h
    simp [validB, zeroH, eqH] at hv hv'
    obtain ⟨rfl, rfl, rfl, rfl, rfl, rfl, rfl, rfl, rfl⟩ := hv
    obtain ⟨rfl, rfl, rfl, rfl, rfl, rfl, rfl, rfl, rfl⟩ := hv'
    subst hn
    simp [eqV, eqH]
  · have hn : s = s' := data_inj (esc_inj (List.append_cancel_right (List.cons.inj h).2))
    simp [validB, zeroH, eqH] at hv hv'
    obtain ⟨rfl, ⟨rfl, rfl, rfl, rfl, rfl, rfl, rfl, rfl⟩, _⟩ := hv
    obtain ⟨rfl, ⟨rfl, rfl, rfl, rfl, rfl, rfl, rfl, rfl⟩, _⟩ := hv'
    subst hn
    simp [eqV, eqH]
  · have hn : (n == 1) = (n' == 1) := bool_inj h
    simp [validB, zeroH, eqH] at hv hv'
    obtain ⟨h1, rfl, rfl, rfl, rfl, rfl, rfl, rfl, rfl, rfl⟩ := hv
    obtain ⟨h2, rfl, rfl, rfl, rfl, rfl, rfl, rfl, rfl, rfl⟩ := hv'
    have : n = n' := by rcases h1 with rfl | rfl <;> rcases h2 with rfl | rfl <;> first | rfl | exact absurd hn (by decide)
    subst this
    simp [eqV, eqH]
  · have hx := txt_inj h
    simp [validB] at hv hv'
    obtain ⟨rfl, rfl⟩ := hv
    obtain ⟨rfl, rfl⟩ := hv'
    have e0 := hx 0 (by omega); have e1 := hx 1 (by omega); have e2 := hx 2 (by omega); have e3 := hx 3 (by omega)
    have e4 := hx 4 (by omega); have e5 := hx 5 (by omega); have e6 := hx 6 (by omega); have e7 := hx 7 (by omega)
    simp only [nth8] at e0 e1 e2 e3 e4 e5 e6 e7
    subst e0 e1 e2 e3 e4 e5 e6 e7
    simp [eqV, eqH]
theorem text_of_eq {k n : Int} {s : ByteArray} {a0 a1 a2 a3 a4 a5 a6 a7 : Int} {k' n' : Int} {s' : ByteArray} {b0 b1 b2 b3 b4 b5 b6 b7 : Int} (h : eqV k n s a0 a1 a2 a3 a4 a5 a6 a7 k' n' s' b0 b1 b2 b3 b4 b5 b6 b7 = true) : textV k n s a0 a1 a2 a3 a4 a5 a6 a7 = textV k' n' s' b0 b1 b2 b3 b4 b5 b6 b7 := by
  simp [eqV, eqH] at h
  obtain ⟨⟨rfl, rfl, rfl⟩, rfl, rfl, rfl, rfl, rfl, rfl, rfl, rfl⟩ := h
  rfl
theorem text_ne {k n : Int} {s : ByteArray} {a0 a1 a2 a3 a4 a5 a6 a7 : Int} (hv : validB k n s a0 a1 a2 a3 a4 a5 a6 a7 = true) : textV k n s a0 a1 a2 a3 a4 a5 a6 a7 ≠ [] := by
  intro h
  have h2 := kind_text hv
  rw [h] at h2
  have h3 := valid_kind hv
  simp [kindOf] at h2
  omega
end Go.Proofs.YtjplnelffiegmaaDoor
