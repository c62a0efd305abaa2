/-
  The tokens of a text as plain functions of its bytes.
-/

namespace Go.Proofs.YtomnjckbgmbgmaaGreatDoor

def isBl (c : UInt8) : Bool := decide (c.toNat = 32 ∨ c.toNat = 9 ∨ c.toNat = 10 ∨ c.toNat = 13)
def isLe (c : UInt8) : Bool := decide (97 ≤ c.toNat ∧ c.toNat ≤ 122)
def isDg (c : UInt8) : Bool := decide (48 ≤ c.toNat ∧ c.toNat ≤ 57)
def isWd (c : UInt8) : Bool := decide ((97 ≤ c.toNat ∧ c.toNat ≤ 122) ∨ (48 ≤ c.toNat ∧ c.toNat ≤ 57) ∨ c.toNat = 95)
def nSl (c : UInt8) : Bool := decide (c.toNat = 34 ∨ c.toNat = 92)

def spanN (p : UInt8 → Bool) : List UInt8 → Nat
  | [] => 0
  | c :: r => if p c then spanN p r + 1 else 0

theorem spanN_le (p : UInt8 → Bool) : ∀ l, spanN p l ≤ l.length
  | [] => Nat.le_refl _
  | c :: r => by
    unfold spanN
    split
    · have := spanN_le p r; simp; omega
    · omega
theorem spanN_all (p : UInt8 → Bool) : ∀ (l : List UInt8) (i : Nat) (h : i < l.length), i < spanN p l → p l[i] = true
  | [], i, h, _ => by simp at h
  | c :: r, i, h, hi => by
    unfold spanN at hi
    split at hi
    · rename_i hc
      cases i with
      | zero => simpa using hc
      | succ i => simpa using spanN_all p r i (by simpa using h) (by omega)
    · omega
theorem spanN_stop (p : UInt8 → Bool) : ∀ (l : List UInt8) (h : spanN p l < l.length), p (l[spanN p l]) = false
  | [], h => by simp at h
  | c :: r, h => by
    by_cases hc : p c = true
    · have e : spanN p (c :: r) = spanN p r + 1 := by simp [spanN, hc]
      have h' : spanN p r < r.length := by rw [e] at h; simpa using h
      have := spanN_stop p r h'
      simp only [e, List.getElem_cons_succ]; exact this
    · have e : spanN p (c :: r) = 0 := by simp [spanN, hc]
      simp only [e, List.getElem_cons_zero]; simpa using hc
/-- The first place where it is not so, or the end. -/
theorem spanN_is (p : UInt8 → Bool) (l : List UInt8) (k : Nat) (hk : k ≤ l.length) (ha : ∀ i (h : i < l.length), i < k → p l[i] = true)
    (hs : k = l.length ∨ ∃ h : k < l.length, p l[k] = false) : spanN p l = k := by
  have h1 := spanN_le p l
  rcases Nat.lt_trichotomy (spanN p l) k with h | h | h
  · have := spanN_stop p l (by omega)
    rw [ha _ (by omega) h] at this; cases this
  · exact h
  · rcases hs with hs | ⟨h2, hs⟩
    · omega
    · rw [spanN_all p l k h2 h] at hs; cases hs
theorem spanN_app (p : UInt8 → Bool) (b : UInt8) (hb : p b = false) (r : List UInt8) : ∀ l, spanN p (l ++ b :: r) = spanN p l
  | [] => by simp [spanN, hb]
  | c :: l => by
    simp only [List.cons_append, spanN]
    rw [spanN_app p b hb r l]
theorem spanN_take (p : UInt8 → Bool) (l : List UInt8) : ∀ x ∈ l.take (spanN p l), p x = true := by
  intro x hx
  obtain ⟨i, hi, rfl⟩ := List.mem_iff_getElem.1 hx
  rw [List.getElem_take]
  have := hi; simp at this
  exact spanN_all p l i (by omega) (by omega)
theorem spanN_allp (p : UInt8 → Bool) : ∀ l : List UInt8, (∀ x ∈ l, p x = true) → spanN p l = l.length
  | [], _ => rfl
  | c :: r, h => by
    simp [spanN, h c (by simp), spanN_allp p r (fun x hx => h x (by simp [hx]))]
theorem spanN_mono (p q : UInt8 → Bool) (h : ∀ c, p c = true → q c = true) : ∀ l, spanN p l ≤ spanN q l
  | [] => Nat.le_refl _
  | c :: r => by
    unfold spanN
    by_cases hp : p c = true
    · rw [if_pos hp, if_pos (h c hp)]; have := spanN_mono p q h r; omega
    · rw [if_neg hp]; omega

/-! Numbers -/
def dstep (a : Nat) (c : UInt8) : Nat := a * 10 + (c.toNat - 48)
def dvalF (acc : Nat) (l : List UInt8) : Nat := l.foldl dstep acc
def dval (l : List UInt8) : Nat := dvalF 0 l
theorem dvalF_nil (acc : Nat) : dvalF acc [] = acc := rfl
theorem dvalF_cons (acc : Nat) (c : UInt8) (l : List UInt8) : dvalF acc (c :: l) = dvalF (dstep acc c) l := by simp only [dvalF, List.foldl_cons]
theorem dvalF_ge (l : List UInt8) : ∀ acc : Nat, acc * (10 ^ l.length) ≤ dvalF acc l := by
  induction l with
  | nil => intro acc; rw [dvalF_nil]; exact Nat.le_of_eq (Nat.mul_one _)
  | cons c r ih =>
    intro acc
    have := ih (dstep acc c)
    rw [dvalF_cons, List.length_cons, Nat.pow_succ]
    refine Nat.le_trans ?_ this
    rw [Nat.mul_comm (10 ^ r.length) 10, ← Nat.mul_assoc]
    exact Nat.mul_le_mul_right _ (Nat.le_add_right _ _)
theorem dvalF_acc (l : List UInt8) (acc : Nat) : acc ≤ dvalF acc l := by
  refine Nat.le_trans ?_ (dvalF_ge l acc)
  exact Nat.le_mul_of_pos_right _ (Nat.pow_pos (by decide))
theorem dvalF_append (l m : List UInt8) (acc : Nat) : dvalF acc (l ++ m) = dvalF (dvalF acc l) m := by
  simp [dvalF, List.foldl_append]

/-- What a number's digits say with or without a sign; none beyond what a number is. -/
def numV (ng : Bool) (v : Nat) : Option Int :=
  if ng then (if v ≤ 9223372036854775808 then some (-(v : Int)) else none)
  else (if v < 9223372036854775808 then some (v : Int) else none)

/-- A token without its place: its kind, its text, its number. -/
structure Tk where
  kind : Nat
  s : List UInt8
  n : Int
  at_ : Nat
instance : DecidableEq Tk := fun a b => decidable_of_iff (a.kind = b.kind ∧ a.s = b.s ∧ a.n = b.n ∧ a.at_ = b.at_) (by cases a; cases b; simp)

def wordS (xs : List UInt8) : Option (Tk × Nat) :=
  if 24 < spanN isWd xs then none else some (⟨1, xs.take (spanN isWd xs), 0, 0⟩, spanN isWd xs)
def neg1 (xs : List UInt8) : Bool := xs.head? == some 45
def digitsOf (xs : List UInt8) : List UInt8 := if neg1 xs then xs.tail else xs
def sgn1 (xs : List UInt8) : Nat := if neg1 xs then 1 else 0
def numS (xs : List UInt8) : Option (Tk × Nat) :=
  if spanN isDg (digitsOf xs) = 0 ∨ spanN isDg (digitsOf xs) ≠ spanN isWd (digitsOf xs) then none
  else if (digitsOf xs).head? = some 48 ∧ 1 < spanN isDg (digitsOf xs) + sgn1 xs then none
  else (numV (neg1 xs) (dval ((digitsOf xs).take (spanN isDg (digitsOf xs))))).map (fun v => (⟨2, [], v, 0⟩, spanN isDg (digitsOf xs) + sgn1 xs))
def txtF (acc : List UInt8) (sl : Bool) (k : Nat) : List UInt8 → Option (List UInt8 × Nat)
  | [] => none
  | c :: r =>
    if (sl && !nSl c) || decide (64 < acc.length) then none
    else if !sl && c == 34 then some (acc, k + 2)
    else if !sl && c == 92 then txtF acc true (k + 1) r
    else txtF (acc ++ [c]) false (k + 1) r
def textS (xs : List UInt8) : Option (Tk × Nat) :=
  match txtF [] false 0 xs.tail with
  | some (b, n) => some (⟨3, b, 0, 0⟩, n)
  | none => none
def signsL : List (List UInt8) := [[33, 61], [60, 61], [62, 61], [124], [44], [40], [41], [58], [61], [60], [62]]
def signS (xs : List UInt8) : Option (Tk × Nat) :=
  match signsL.find? (fun x => x.isPrefixOf xs) with
  | some x => some (⟨4, x, 0, 0⟩, x.length)
  | none => none
def firstS (xs : List UInt8) : Option (Tk × Nat) :=
  match xs with
  | [] => none
  | c :: r =>
    if isLe c then wordS (c :: r)
    else if c == 45 || isDg c then numS (c :: r)
    else if c == 34 then textS (c :: r)
    else signS (c :: r)

theorem txtF_pos : ∀ (l acc : List UInt8) (sl : Bool) (k : Nat) (b : List UInt8) (n : Nat), txtF acc sl k l = some (b, n) → k + 2 ≤ n ∧ n ≤ k + 1 + l.length
  | [], acc, sl, k, b, n, h => by simp [txtF] at h
  | c :: r, acc, sl, k, b, n, h => by
    unfold txtF at h
    split at h
    · cases h
    · split at h
      · cases h; simp; omega
      · split at h
        · have := txtF_pos r _ _ _ _ _ h; simp; omega
        · have := txtF_pos r _ _ _ _ _ h; simp; omega
theorem isLe_isWd {c : UInt8} (h : isLe c = true) : isWd c = true := by simp [isWd, isLe] at h ⊢; omega
theorem isDg_isWd {c : UInt8} (h : isDg c = true) : isWd c = true := by simp [isWd, isDg] at h ⊢; omega
theorem find_sign {xs x : List UInt8} (h : signsL.find? (fun x => x.isPrefixOf xs) = some x) : x ∈ signsL ∧ x.isPrefixOf xs = true := by
  have h1 := List.find?_some h
  have h2 := List.mem_of_find?_eq_some h
  exact ⟨h2, h1⟩
theorem signs_len {x : List UInt8} (h : x ∈ signsL) : 1 ≤ x.length ∧ x.length ≤ 2 := by
  simp only [signsL, List.mem_cons, List.not_mem_nil, or_false] at h
  rcases h with h | h | h | h | h | h | h | h | h | h | h <;> subst h <;> decide
theorem digitsOf_len (xs : List UInt8) : (digitsOf xs).length + sgn1 xs = xs.length := by
  unfold digitsOf sgn1
  by_cases h : neg1 xs = true
  · rw [if_pos h, if_pos h]
    cases xs with
    | nil => simp [neg1] at h
    | cons c r => simp
  · rw [if_neg h, if_neg h]; rfl
/-- A token takes a byte at least, and no more than there are. -/
theorem firstS_pos {xs : List UInt8} {t : Tk} {n : Nat} (h : firstS xs = some (t, n)) : 1 ≤ n ∧ n ≤ xs.length := by
  unfold firstS at h
  split at h
  · cases h
  · rename_i c r
    split at h
    · rename_i hc
      unfold wordS at h
      split at h
      · cases h
      · cases h
        refine ⟨?_, spanN_le _ _⟩
        simp [spanN, isLe_isWd hc]
    · split at h
      · unfold numS at h
        split at h
        · cases h
        · rename_i h0
          split at h
          · cases h
          · obtain ⟨v, -, h⟩ := Option.map_eq_some_iff.1 h
            cases h
            have := digitsOf_len (c :: r)
            have := spanN_le isDg (digitsOf (c :: r))
            omega
      · split at h
        · unfold textS at h
          split at h
          · rename_i b n' e
            cases h
            have := txtF_pos _ _ _ _ _ _ e
            simp at this ⊢
            omega
          · cases h
        · unfold signS at h
          split at h
          · rename_i x e
            cases h
            obtain ⟨h1, h2⟩ := find_sign e
            have h3 := signs_len h1
            have h4 := (List.isPrefixOf_iff_prefix.1 h2).length_le
            omega
          · cases h

/-- The tokens of what stands behind, with their places; or the place of what begins none. -/
def lexR : Nat → Nat → List UInt8 → Nat ⊕ List Tk
  | 0, _, _ => .inr []
  | f + 1, at_, xs =>
    match xs with
    | [] => .inr []
    | c :: r =>
      if isBl c then lexR f (at_ + 1) r
      else match firstS (c :: r) with
        | none => .inl at_
        | some (t, n) => match lexR f (at_ + n) ((c :: r).drop n) with
          | .inl e => .inl e
          | .inr l => .inr ({ t with at_ := at_ } :: l)
theorem lexR_fuel : ∀ (f g at_ : Nat) (xs : List UInt8), xs.length ≤ f → xs.length ≤ g → lexR f at_ xs = lexR g at_ xs
  | 0, g, at_, xs, hf, hg => by
    obtain rfl : xs = [] := List.eq_nil_of_length_eq_zero (by omega)
    cases g <;> rfl
  | f + 1, 0, at_, xs, hf, hg => by
    obtain rfl : xs = [] := List.eq_nil_of_length_eq_zero (by omega)
    rfl
  | f + 1, g + 1, at_, [], hf, hg => rfl
  | f + 1, g + 1, at_, c :: r, hf, hg => by
    simp only [lexR]
    split
    · exact lexR_fuel f g _ r (by simpa using hf) (by simpa using hg)
    · cases h : firstS (c :: r) with
      | none => rfl
      | some x =>
        obtain ⟨t, n⟩ := x
        have hp := firstS_pos h
        simp only
        rw [lexR_fuel f g (at_ + n) ((c :: r).drop n) (by simp at hf ⊢; omega) (by simp at hg ⊢; omega)]
def lexA (at_ : Nat) (xs : List UInt8) : Nat ⊕ List Tk := lexR xs.length at_ xs
theorem lexA_nil (a : Nat) : lexA a [] = .inr [] := rfl
theorem lexA_bl (a : Nat) {c : UInt8} (r : List UInt8) (h : isBl c = true) : lexA a (c :: r) = lexA (a + 1) r := by
  simp [lexA, lexR, h]
theorem lexA_no (a : Nat) {c : UInt8} {r : List UInt8} (h : isBl c = false) (hf : firstS (c :: r) = none) : lexA a (c :: r) = .inl a := by
  simp [lexA, lexR, h, hf]
theorem lexA_some (a : Nat) {c : UInt8} {r : List UInt8} {t : Tk} {n : Nat} (h : isBl c = false) (hf : firstS (c :: r) = some (t, n)) :
    lexA a (c :: r) = match lexA (a + n) ((c :: r).drop n) with
      | .inl e => .inl e
      | .inr l => .inr ({ t with at_ := a } :: l) := by
  have hp := firstS_pos hf
  have e : lexR r.length (a + n) ((c :: r).drop n) = lexA (a + n) ((c :: r).drop n) := lexR_fuel _ _ _ _ (by simp; omega) (by simp)
  simp only [lexA] at e ⊢
  simp only [List.length_cons, lexR, h, hf]
  rw [e]; rfl
theorem lexA_span (a : Nat) : ∀ (xs : List UInt8), lexA a xs = lexA (a + spanN isBl xs) (xs.drop (spanN isBl xs))
  | [] => rfl
  | c :: r => by
    by_cases h : isBl c = true
    · rw [lexA_bl a r h, lexA_span (a + 1) r]
      simp [spanN, h]
      congr 1; omega
    · simp [spanN, h]

end Go.Proofs.YtomnjckbgmbgmaaGreatDoor
