/-
  The tokens of a text as plain functions of its bytes.
  Texts as rows of bytes; what the small functions answer of a byte.
  What span returns.
  What word returns.
  What strings.HasPrefix and strings.TrimPrefix return.
  What sign returns, where the table of signs stands as the program lays it.
  A box of a token in a world that has gone on.
  A query's nodes as plain functions of its tokens.
-/
import Derived.Test.YtcidijjbcebcbaaProg
import Derived.KernelRfl
import Derived.WalkKit
import Derived.WalkSpells
import Derived.WalkLawsBesides
import Derived.Deep.RegionWith
import Derived.Deep.Light
import Derived.BigQuiet
import Derived.ChangeKeysEq
import Derived.Handy
namespace Go.Proofs.Ytcidijjbcebcbaa

def isBl (c : UInt8) : Bool := decide (c.toNat = 32 ∨ c.toNat = 9 ∨ c.toNat = 10 ∨ c.toNat = 13)
def isLe (c : UInt8) : Bool := decide (97 ≤ c.toNat ∧ c.toNat ≤ 122)
def isDg (c : UInt8) : Bool := decide (48 ≤ c.toNat ∧ c.toNat ≤ 57)
def isWd (c : UInt8) : Bool := decide ((97 ≤ c.toNat ∧ c.toNat ≤ 122) ∨ (48 ≤ c.toNat ∧ c.toNat ≤ 57) ∨ c.toNat = 95)
def nSl (c : UInt8) : Bool := decide (c.toNat = 34 ∨ c.toNat = 92)

def spanN (p : UInt8 → Bool) : List UInt8 → Nat
  | [] => 0
  | c :: r => if p c then spanN p r + 1 else 0

theorem spanN_le (p : UInt8 → Bool) : ∀ l, spanN p l ≤ l.length
  | [] => Nat.le_refl _
  | c :: r => by
    unfold spanN
    split
    · have := spanN_le p r; simp; omega
    · omega
theorem spanN_all (p : UInt8 → Bool) : ∀ (l : List UInt8) (i : Nat) (h : i < l.length), i < spanN p l → p l[i] = true
  | [], i, h, _ => by simp at h
  | c :: r, i, h, hi => by
    unfold spanN at hi
    split at hi
    · rename_i hc
      cases i with
      | zero => simpa using hc
      | succ i => simpa using spanN_all p r i (by simpa using h) (by omega)
    · omega
theorem spanN_stop (p : UInt8 → Bool) : ∀ (l : List UInt8) (h : spanN p l < l.length), p (l[spanN p l]) = false
  | [], h => by simp at h
  | c :: r, h => by
    by_cases hc : p c = true
    · have e : spanN p (c :: r) = spanN p r + 1 := by simp [spanN, hc]
      have h' : spanN p r < r.length := by rw [e] at h; simpa using h
      have := spanN_stop p r h'
      simp only [e, List.getElem_cons_succ]; exact this
    · have e : spanN p (c :: r) = 0 := by simp [spanN, hc]
      simp only [e, List.getElem_cons_zero]; simpa using hc
/-- The first place where it is not so, or the end. -/
theorem spanN_is (p : UInt8 → Bool) (l : List UInt8) (k : Nat) (hk : k ≤ l.length) (ha : ∀ i (h : i < l.length), i < k → p l[i] = true)
    (hs : k = l.length ∨ ∃ h : k < l.length, p l[k] = false) : spanN p l = k := by
  have h1 := spanN_le p l
  rcases Nat.lt_trichotomy (spanN p l) k with h | h | h
  · have := spanN_stop p l (by omega)
    rw [ha _ (by omega) h] at this; cases this
  · exact h
  · rcases hs with hs | ⟨h2, hs⟩
    · omega
    · rw [spanN_all p l k h2 h] at hs; cases hs
theorem spanN_app (p : UInt8 → Bool) (b : UInt8) (hb : p b = false) (r : List UInt8) : ∀ l, spanN p (l ++ b :: r) = spanN p l
  | [] => by simp [spanN, hb]
  | c :: l => by
    simp only [List.cons_append, spanN]
    rw [spanN_app p b hb r l]
theorem spanN_take (p : UInt8 → Bool) (l : List UInt8) : ∀ x ∈ l.take (spanN p l), p x = true := by
  intro x hx
  obtain ⟨i, hi, rfl⟩ := List.mem_iff_getElem.1 hx
  rw [List.getElem_take]
  have := hi; simp at this
  exact spanN_all p l i (by omega) (by omega)
theorem spanN_allp (p : UInt8 → Bool) : ∀ l : List UInt8, (∀ x ∈ l, p x = true) → spanN p l = l.length
  | [], _ => rfl
  | c :: r, h => by
    simp [spanN, h c (by simp), spanN_allp p r (fun x hx => h x (by simp [hx]))]
theorem spanN_mono (p q : UInt8 → Bool) (h : ∀ c, p c = true → q c = true) : ∀ l, spanN p l ≤ spanN q l
  | [] => Nat.le_refl _
  | c :: r => by
    unfold spanN
    by_cases hp : p c = true
    · rw [if_pos hp, if_pos (h c hp)]; have := spanN_mono p q h r; omega
    · rw [if_neg hp]; omega

/-! Numbers -/
def dstep (a : Nat) (c : UInt8) : Nat := a * 10 + (c.toNat - 48)
def dvalF (acc : Nat) (l : List UInt8) : Nat := l.foldl dstep acc
def dval (l : List UInt8) : Nat := dvalF 0 l
theorem dvalF_nil (acc : Nat) : dvalF acc [] = acc := rfl
theorem dvalF_cons (acc : Nat) (c : UInt8) (l : List UInt8) : dvalF acc (c :: l) = dvalF (dstep acc c) l := by simp only [dvalF, List.foldl_cons]
theorem dvalF_ge (l : List UInt8) : ∀ acc : Nat, acc * (10 ^ l.length) ≤ dvalF acc l := by
  induction l with
  | nil => intro acc; rw [dvalF_nil]; exact Nat.le_of_eq (Nat.mul_one _)
  | cons c r ih =>
    intro acc
    have := ih (dstep acc c)
    rw [dvalF_cons, List.length_cons, Nat.pow_succ]
    refine Nat.le_trans ?_ this
    rw [Nat.mul_comm (10 ^ r.length) 10, ← Nat.mul_assoc]
    exact Nat.mul_le_mul_right _ (Nat.le_add_right _ _)
theorem dvalF_acc (l : List UInt8) (acc : Nat) : acc ≤ dvalF acc l := by
  refine Nat.le_trans ?_ (dvalF_ge l acc)
  exact Nat.le_mul_of_pos_right _ (Nat.pow_pos (by decide))
theorem dvalF_append (l m : List UInt8) (acc : Nat) : dvalF acc (l ++ m) = dvalF (dvalF acc l) m := by
  simp [dvalF, List.foldl_append]

/-- What a number's digits say with or without a sign; none beyond what a number is. -/
def numV (ng : Bool) (v : Nat) : Option Int :=
  if ng then (if v ≤ 9223372036854775808 then some (-(v : Int)) else none)
  else (if v < 9223372036854775808 then some (v : Int) else none)

/-- A token without its place: its kind, its text, its number. -/
structure Tk where
  kind : Nat
  s : List UInt8
  n : Int
  at_ : Nat
instance : DecidableEq Tk := fun a b => decidable_of_iff (a.kind = b.kind ∧ a.s = b.s ∧ a.n = b.n ∧ a.at_ = b.at_) (by cases a; cases b; simp)

def wordS (xs : List UInt8) : Option (Tk × Nat) :=
  if 24 < spanN isWd xs then none else some (⟨1, xs.take (spanN isWd xs), 0, 0⟩, spanN isWd xs)
def neg1 (xs : List UInt8) : Bool := xs.head? == some 45
def digitsOf (xs : List UInt8) : List UInt8 := if neg1 xs then xs.tail else xs
def sgn1 (xs : List UInt8) : Nat := if neg1 xs then 1 else 0
def numS (xs : List UInt8) : Option (Tk × Nat) :=
  if spanN isDg (digitsOf xs) = 0 ∨ spanN isDg (digitsOf xs) ≠ spanN isWd (digitsOf xs) then none
  else if (digitsOf xs).head? = some 48 ∧ 1 < spanN isDg (digitsOf xs) + sgn1 xs then none
  else (numV (neg1 xs) (dval ((digitsOf xs).take (spanN isDg (digitsOf xs))))).map (fun v => (⟨2, [], v, 0⟩, spanN isDg (digitsOf xs) + sgn1 xs))
def txtF (acc : List UInt8) (sl : Bool) (k : Nat) : List UInt8 → Option (List UInt8 × Nat)
  | [] => none
  | c :: r =>
    if (sl && !nSl c) || decide (64 < acc.length) then none
    else if !sl && c == 34 then some (acc, k + 2)
    else if !sl && c == 92 then txtF acc true (k + 1) r
    else txtF (acc ++ [c]) false (k + 1) r
def textS (xs : List UInt8) : Option (Tk × Nat) :=
  match txtF [] false 0 xs.tail with
  | some (b, n) => some (⟨3, b, 0, 0⟩, n)
  | none => none
def signsL : List (List UInt8) := [[33, 61], [60, 61], [62, 61], [124], [44], [40], [41], [58], [61], [60], [62]]
def signS (xs : List UInt8) : Option (Tk × Nat) :=
  match signsL.find? (fun x => x.isPrefixOf xs) with
  | some x => some (⟨4, x, 0, 0⟩, x.length)
  | none => none
def firstS (xs : List UInt8) : Option (Tk × Nat) :=
  match xs with
  | [] => none
  | c :: r =>
    if isLe c then wordS (c :: r)
    else if c == 45 || isDg c then numS (c :: r)
    else if c == 34 then textS (c :: r)
    else signS (c :: r)

theorem txtF_pos : ∀ (l acc : List UInt8) (sl : Bool) (k : Nat) (b : List UInt8) (n : Nat), txtF acc sl k l = some (b, n) → k + 2 ≤ n ∧ n ≤ k + 1 + l.length
  | [], acc, sl, k, b, n, h => by simp [txtF] at h
  | c :: r, acc, sl, k, b, n, h => by
    unfold txtF at h
    split at h
    · cases h
    · split at h
      · cases h; simp; omega
      · split at h
        · have := txtF_pos r _ _ _ _ _ h; simp; omega
        · have := txtF_pos r _ _ _ _ _ h; simp; omega
theorem isLe_isWd {c : UInt8} (h : isLe c = true) : isWd c = true := by simp [isWd, isLe] at h ⊢; omega
theorem isDg_isWd {c : UInt8} (h : isDg c = true) : isWd c = true := by simp [isWd, isDg] at h ⊢; omega
theorem find_sign {xs x : List UInt8} (h : signsL.find? (fun x => x.isPrefixOf xs) = some x) : x ∈ signsL ∧ x.isPrefixOf xs = true := by
  have h1 := List.find?_some h
  have h2 := List.mem_of_find?_eq_some h
  exact ⟨h2, h1⟩
theorem signs_len {x : List UInt8} (h : x ∈ signsL) : 1 ≤ x.length ∧ x.length ≤ 2 := by
  simp only [signsL, List.mem_cons, List.not_mem_nil, or_false] at h
  rcases h with h | h | h | h | h | h | h | h | h | h | h <;> subst h <;> decide
theorem digitsOf_len (xs : List UInt8) : (digitsOf xs).length + sgn1 xs = xs.length := by
  unfold digitsOf sgn1
  by_cases h : neg1 xs = true
  · rw [if_pos h, if_pos h]
    cases xs with
    | nil => simp [neg1] at h
    | cons c r => simp
  · rw [if_neg h, if_neg h]; rfl
/-- A token takes a byte at least, and no more than there are. -/
theorem firstS_pos {xs : List UInt8} {t : Tk} {n : Nat} (h : firstS xs = some (t, n)) : 1 ≤ n ∧ n ≤ xs.length := by
  unfold firstS at h
  split at h
  · cases h
  · rename_i c r
    split at h
    · rename_i hc
      unfold wordS at h
      split at h
      · cases h
      · cases h
        refine ⟨?_, spanN_le _ _⟩
        simp [spanN, isLe_isWd hc]
    · split at h
      · unfold numS at h
        split at h
        · cases h
        · rename_i h0
          split at h
          · cases h
          · obtain ⟨v, -, h⟩ := Option.map_eq_some_iff.1 h
            cases h
            have := digitsOf_len (c :: r)
            have := spanN_le isDg (digitsOf (c :: r))
            omega
      · split at h
        · unfold textS at h
          split at h
          · rename_i b n' e
            cases h
            have := txtF_pos _ _ _ _ _ _ e
            simp at this ⊢
            omega
          · cases h
        · unfold signS at h
          split at h
          · rename_i x e
            cases h
            obtain ⟨h1, h2⟩ := find_sign e
            have h3 := signs_len h1
            have h4 := (List.isPrefixOf_iff_prefix.1 h2).length_le
            omega
          · cases h

/-- The tokens of what stands behind, with their places; or the place of what begins none. -/
def lexR : Nat → Nat → List UInt8 → Nat ⊕ List Tk
  | 0, _, _ => .inr []
  | f + 1, at_, xs =>
    match xs with
    | [] => .inr []
    | c :: r =>
      if isBl c then lexR f (at_ + 1) r
      else match firstS (c :: r) with
        | none => .inl at_
        | some (t, n) => match lexR f (at_ + n) ((c :: r).drop n) with
          | .inl e => .inl e
          | .inr l => .inr ({ t with at_ := at_ } :: l)
theorem lexR_fuel : ∀ (f g at_ : Nat) (xs : List UInt8), xs.length ≤ f → xs.length ≤ g → lexR f at_ xs = lexR g at_ xs
  | 0, g, at_, xs, hf, hg => by
    obtain rfl : xs = [] := List.eq_nil_of_length_eq_zero (by omega)
    cases g <;> rfl
  | f + 1, 0, at_, xs, hf, hg => by
    obtain rfl : xs = [] := List.eq_nil_of_length_eq_zero (by omega)
    rfl
  | f + 1, g + 1, at_, [], hf, hg => rfl
  | f + 1, g + 1, at_, c :: r, hf, hg => by
    simp only [lexR]
    split
    · exact lexR_fuel f g _ r (by simpa using hf) (by simpa using hg)
    · cases h : firstS (c :: r) with
      | none => rfl
      | some x =>
        obtain ⟨t, n⟩ := x
        have hp := firstS_pos h
        simp only
        rw [lexR_fuel f g (at_ + n) ((c :: r).drop n) (by simp at hf ⊢; omega) (by simp at hg ⊢; omega)]
def lexA (at_ : Nat) (xs : List UInt8) : Nat ⊕ List Tk := lexR xs.length at_ xs
theorem lexA_nil (a : Nat) : lexA a [] = .inr [] := rfl
theorem lexA_bl (a : Nat) {c : UInt8} (r : List UInt8) (h : isBl c = true) : lexA a (c :: r) = lexA (a + 1) r := by
  simp [lexA, lexR, h]
theorem lexA_no (a : Nat) {c : UInt8} {r : List UInt8} (h : isBl c = false) (hf : firstS (c :: r) = none) : lexA a (c :: r) = .inl a := by
  simp [lexA, lexR, h, hf]
theorem lexA_some (a : Nat) {c : UInt8} {r : List UInt8} {t : Tk} {n : Nat} (h : isBl c = false) (hf : firstS (c :: r) = some (t, n)) :
    lexA a (c :: r) = match lexA (a + n) ((c :: r).drop n) with
      | .inl e => .inl e
      | .inr l => .inr ({ t with at_ := a } :: l) := by
  have hp := firstS_pos hf
  have e : lexR r.length (a + n) ((c :: r).drop n) = lexA (a + n) ((c :: r).drop n) := lexR_fuel _ _ _ _ (by simp; omega) (by simp)
  simp only [lexA] at e ⊢
  simp only [List.length_cons, lexR, h, hf]
  rw [e]; rfl
theorem lexA_span (a : Nat) : ∀ (xs : List UInt8), lexA a xs = lexA (a + spanN isBl xs) (xs.drop (spanN isBl xs))
  | [] => rfl
  | c :: r => by
    by_cases h : isBl c = true
    · rw [lexA_bl a r h, lexA_span (a + 1) r]
      simp [spanN, h]
      congr 1; omega
    · simp [spanN, h]

end Go.Proofs.Ytcidijjbcebcbaa
namespace Go.Proofs.Ytcidijjbcebcbaa
open Go.RowKit

theorem hid {p : Prop} (h : p) : Hid p := h
def St (l : List UInt8) : ByteArray := ⟨l.toArray⟩
theorem St_size (l : List UInt8) : (St l).size = l.length := by simp [St, ByteArray.size]
theorem St_toList (l : List UInt8) : (St l).data.toList = l := by simp [St]
theorem St_get (l : List UInt8) (k : Nat) (h : k < (St l).size) : (St l)[k] = l[k]'(by rw [← St_size]; exact h) := by
  simp [St, ByteArray.getElem_eq_getElem_data]
theorem St_of (s : ByteArray) : St s.data.toList = s := by cases s; rfl
theorem idx (l : List UInt8) (k : Nat) (h : k < l.length) (w : World) : (Instr.index 9 (.string (St l)) (.int .i64 (k : Int))).run Try.prog w = .ok (.int .u8 (l[k].toNat : Int)) w := by
  have hs := St_size l
  rw [run_index_string w 9 (St l) .i64 (k : Int) Try.underlying9, dif_pos ⟨by omega, by omega⟩]
  congr 3
theorem St_extract (l : List UInt8) (a b : Nat) : (St l).extract a b = St ((l.take b).drop a) := by
  unfold St
  apply ByteArray.ext
  simp only [ByteArray.data_extract]
  apply Array.toList_inj.1
  simp [List.extract, List.drop_take]
theorem slF (l : List UInt8) (k : Nat) (h : k ≤ l.length) (w : World) : (Instr.slice 9 (.string (St l)) (some (.int .i64 (k : Int))) none none).run Try.prog w = .ok (.string (St (l.drop k))) w := by
  have hs := St_size l
  rw [run_slice_string_from_if w 9 (St l) .i64 (k : Int) Try.underlying9, if_pos (by omega)]
  congr 2
  rw [show ((k : Int)).toNat = k by omega, hs, St_extract l k l.length, List.take_length]
theorem slT (l : List UInt8) (k : Nat) (h : k ≤ l.length) (w : World) : (Instr.slice 9 (.string (St l)) none (some (.int .i64 (k : Int))) none).run Try.prog w = .ok (.string (St (l.take k))) w := by
  have hs := St_size l
  rw [run_slice_string_to_if w 9 (St l) .i64 (k : Int) Try.underlying9, if_pos (by omega)]
  congr 2
  rw [show ((k : Int)).toNat = k by omega, St_extract l 0 k, List.drop_zero]

end Go.Proofs.Ytcidijjbcebcbaa
namespace Go.Proofs.Ytcidijjbcebcbaa
open Go.RowKit

end Go.Proofs.Ytcidijjbcebcbaa
namespace Go.Proofs.Ytcidijjbcebcbaa
open Go.RowKit

abbrev TV (k : Int) (s : List UInt8) (n a : Int) : Value := .agg #[.int .i64 k, .string (St s), .int .i64 n, .int .i64 a]
def ansV : Option (Tk × Nat) → Value
  | none => .tuple #[TV 0 [] 0 0, .int .i64 0]
  | some (t, n) => .tuple #[TV t.kind t.s t.n t.at_, .int .i64 n]
theorem wordS_no {l : List UInt8} (h : 24 < spanN isWd l) : wordS l = none := by unfold wordS; rw [if_pos h]
theorem wordS_yes {l : List UInt8} (h : ¬ 24 < spanN isWd l) : wordS l = some (⟨1, l.take (spanN isWd l), 0, 0⟩, spanN isWd l) := by unfold wordS; rw [if_neg h]
end Go.Proofs.Ytcidijjbcebcbaa
namespace Go.Proofs.Ytcidijjbcebcbaa
open Go.RowKit
theorem bytes_toList_inj {s t : ByteArray} (h : s.toList = t.toList) : s = t := by
  rw [ByteArray.toList_eq, ByteArray.toList_eq] at h
  obtain ⟨⟨x⟩⟩ := s
  obtain ⟨⟨y⟩⟩ := t
  simp at h
  subst h; rfl
theorem St_inj {l p : List UInt8} (h : St l = St p) : l = p := by
  have := congrArg (fun s : ByteArray => s.data.toList) h
  simpa [St] using this
theorem St_eq (l : List UInt8) (p : List UInt8) : ((St l).toList == (St p).toList) = (l == p) := by
  rcases Decidable.em (l = p) with h | h
  · subst h; simp
  · rw [beq_eq_false_iff_ne.2 h]
    apply beq_eq_false_iff_ne.2
    intro e; exact h (St_inj (bytes_toList_inj e))
theorem pre_is (l p : List UInt8) : p.isPrefixOf l = (decide (p.length ≤ l.length) && (l.take p.length == p)) := by
  apply Bool.eq_iff_iff.2
  rw [List.isPrefixOf_iff_prefix, List.prefix_iff_eq_take]
  simp
  constructor
  · intro h
    refine ⟨?_, h.symm⟩
    have := congrArg List.length h; simp at this; omega
  · intro h; exact h.2.symm
def trimL (p l : List UInt8) : List UInt8 := if p.isPrefixOf l then l.drop p.length else l
end Go.Proofs.Ytcidijjbcebcbaa
namespace Go.Proofs.Ytcidijjbcebcbaa
open Go.RowKit
abbrev sgV : Value := .agg #[.string (St [33, 61]), .string (St [60, 61]), .string (St [62, 61]), .string (St [124]), .string (St [44]), .string (St [40]), .string (St [41]), .string (St [58]), .string (St [61]), .string (St [60]), .string (St [62])]
theorem sign_no {l : List UInt8} (h : ∀ i, i < 11 → (signsL.getD i []).isPrefixOf l = false) : signS l = none := by
  unfold signS
  rw [List.find?_eq_none.2 ?_]
  intro x hx
  obtain ⟨i, hi, rfl⟩ := List.mem_iff_getElem.1 hx
  have hi' : i < 11 := hi
  have := h i hi'
  rw [List.getD_eq_getElem?_getD, List.getElem?_eq_getElem hi] at this
  exact Bool.not_eq_true _ ▸ this
theorem find_at {α : Type} (p : α → Bool) : ∀ (L : List α) (k : Nat) (h : k < L.length), (∀ i (h : i < L.length), i < k → p L[i] = false) → p L[k] = true → L.find? p = some L[k]
  | [], k, h, _, _ => by simp at h
  | a :: L, 0, h, h1, h2 => by
    have h2' : p a = true := h2
    simp [List.find?, h2']
  | a :: L, k + 1, h, h1, h2 => by
    have h0 : p a = false := h1 0 (by simp) (by omega)
    rw [List.find?_cons, h0]
    simpa using find_at p L k (by simpa using h) (fun i hi hk => h1 (i + 1) (by simp; omega) (by omega)) h2
theorem sign_yes {l : List UInt8} {k : Nat} (hk : k < 11) (h : ∀ i, i < k → (signsL.getD i []).isPrefixOf l = false) (h2 : (signsL.getD k []).isPrefixOf l = true) :
    signS l = some (⟨4, signsL.getD k [], 0, 0⟩, (signsL.getD k []).length) := by
  have hl : signsL.length = 11 := rfl
  have e : ∀ i (h : i < signsL.length), signsL.getD i [] = signsL[i] := fun i h => by rw [List.getD_eq_getElem?_getD, List.getElem?_eq_getElem h]; rfl
  unfold signS
  rw [find_at (fun x => x.isPrefixOf l) signsL k (by omega) (fun i hi hik => by have := h i hik; rw [e i hi] at this; exact this) (by rw [e k (by omega)] at h2; exact h2)]
  rw [e k (by omega)]
theorem sgGet (k : Nat) (h : k < 11) : (signsL.getD k []).length ≤ 2 := by
  have e : signsL.getD k [] = signsL[k]'h := by rw [List.getD_eq_getElem?_getD, List.getElem?_eq_getElem (show k < signsL.length from h)]; rfl
  rw [e]; exact (signs_len (List.getElem_mem _)).2
abbrev z31 : Array Value := #[.int .i64 0, .string ⟨#[]⟩, .int .i64 0, .int .i64 0]
theorem St_nil : St [] = ⟨#[]⟩ := rfl
end Go.Proofs.Ytcidijjbcebcbaa
namespace Go.Proofs.Ytcidijjbcebcbaa
open Go.RowKit
theorem lt_of_block {w : World} {b : Nat} {o : Obj} (h : w.heap[b]? = some o) : b < w.heap.size := by
  apply Classical.byContradiction; intro hn
  rw [Array.getElem?_eq_none (by omega)] at h; cases h
theorem block_on {w w' : World} {b : Nat} {o : Obj} (h : w.heap[b]? = some o) (hb : Below w.heap.size w w') : w'.heap[b]? = some o := (hb.block b (lt_of_block h)).trans h
theorem block_cell {w : World} {b : Nat} {xs : Array Value} {t : TypeId} {fz : Nat × Nat} (h : w.heap[b]? = some (.cells xs t fz)) (o : Nat) : w.cell? ⟨b, o, none⟩ = xs[o]? := by
  simp [World.cell?, h]
theorem alloc_block (w : World) (o : Obj) : (w.alloc o).heap[w.heap.size]? = some o := by
  show (w.heap.push o)[w.heap.size]? = _
  simp
theorem block_frozen {w : World} {b : Nat} {xs : Array Value} {t : TypeId} (h : w.heap[b]? = some (.cells xs t (0, 0))) (o : Nat) : w.frozen? ⟨b, o, none⟩ = false := by
  simp [World.frozen?, h]
theorem block_set {w : World} {b : Nat} {xs : Array Value} {t : TypeId} {fz : Nat × Nat} (h : w.heap[b]? = some (.cells xs t fz)) (o : Nat) (v : Value) : (w.setCell ⟨b, o, none⟩ v).heap[b]? = some (.cells (xs.setIfInBounds o v) t fz) := by
  simp [World.setCell, Array.getElem?_modify, h]
/-- A token's box. -/
def Bx (w : World) (b : Nat) (c0 c1 c2 c3 : Value) : Prop := w.heap[b]? = some (.cells #[c0, c1, c2, c3] 86 (0, 0))
theorem Bx.cells {w : World} {b : Nat} {c0 c1 c2 c3 : Value} (h : Bx w b c0 c1 c2 c3) : w.cell? ⟨b, 0, none⟩ = some c0 ∧ w.cell? ⟨b, 1, none⟩ = some c1 ∧ w.cell? ⟨b, 2, none⟩ = some c2 ∧ w.cell? ⟨b, 3, none⟩ = some c3 :=
  ⟨block_cell h 0, block_cell h 1, block_cell h 2, block_cell h 3⟩
theorem Bx.frozen {w : World} {b : Nat} {c0 c1 c2 c3 : Value} (h : Bx w b c0 c1 c2 c3) (o : Nat) : w.frozen? ⟨b, o, none⟩ = false := block_frozen h o
theorem Bx.on {w w' : World} {b : Nat} {c0 c1 c2 c3 : Value} (h : Bx w b c0 c1 c2 c3) (hb : Below w.heap.size w w') : Bx w' b c0 c1 c2 c3 := block_on h hb
theorem Bx.made (w : World) (c0 c1 c2 c3 : Value) : Bx (w.alloc (.cells #[c0, c1, c2, c3] 86)) w.heap.size c0 c1 c2 c3 := alloc_block w _
abbrev set4 (w : World) (b : Nat) (d0 d1 d2 d3 : Value) : World := (((w.setCell ⟨b, 0, none⟩ d0).setCell ⟨b, 1, none⟩ d1).setCell ⟨b, 2, none⟩ d2).setCell ⟨b, 3, none⟩ d3
theorem Bx.set4 {w : World} {b : Nat} {c0 c1 c2 c3 : Value} (h : Bx w b c0 c1 c2 c3) (d0 d1 d2 d3 : Value) : Bx (set4 w b d0 d1 d2 d3) b d0 d1 d2 d3 :=
  block_set (block_set (block_set (block_set h 0 d0) 1 d1) 2 d2) 3 d3
theorem below_set4 {w0 w : World} {b : Nat} (h : Below w0.heap.size w0 w) (hb : w0.heap.size ≤ b) (d0 d1 d2 d3 : Value) : Below w0.heap.size w0 (set4 w b d0 d1 d2 d3) :=
  (((h.setCell (p := ⟨b, 0, none⟩) hb d0).setCell (p := ⟨b, 1, none⟩) hb d1).setCell (p := ⟨b, 2, none⟩) hb d2).setCell (p := ⟨b, 3, none⟩) hb d3
/-- What a call behind the box keeps. -/
theorem box_keep {w w3 : World} {c0 c1 c2 c3 : Value} (hb : Below (w.alloc (.cells #[c0, c1, c2, c3] 86)).heap.size (w.alloc (.cells #[c0, c1, c2, c3] 86)) w3) : Bx w3 w.heap.size c0 c1 c2 c3 ∧ Below w.heap.size w w3 :=
  ⟨(Bx.made w c0 c1 c2 c3).on hb, ((Below.refl _ w).alloc (Nat.le_refl _) _).trans (hb.mono (by simp))⟩
end Go.Proofs.Ytcidijjbcebcbaa
namespace Go.Proofs.Ytcidijjbcebcbaa

/- A token, a node: as data. -/
structure Tp where
  kind : Int
  s : List UInt8
  n : Int
  at_ : Int
structure Np where
  kind : Int
  s : List UInt8
  n : Int
  from_ : Int
  to_ : Int
  vk : Int
  vn : Int
  vs : List UInt8
  l : List Int
  names : List (List UInt8)
  aggs : List (Int × List UInt8)
def n0 : Np := ⟨0, [], 0, 0, 0, 0, 0, [], [], [], []⟩
/- What a step of reading comes to: an error at a token, or something, and the next token. -/
inductive Rs (α : Type) where
  | bad (i : Nat) (c : Int)
  | ok (x : α) (i : Nat)
def Rs.and {α β : Type} (r : Rs α) (f : α → Nat → Rs β) : Rs β := match r with
  | .bad i c => .bad i c
  | .ok x i => f x i
def isW (ts : List Tp) (i : Nat) (x : List UInt8) : Bool := match ts[i]? with
  | some t => decide ((t.kind = 1 ∨ t.kind = 4) ∧ t.s = x)
  | none => false
def isK (ts : List Tp) (i : Nat) (k : Int) : Bool := match ts[i]? with
  | some t => decide (t.kind = k)
  | none => false
def hereS (ts : List Tp) (i : Nat) : Tp := (ts[i]?).getD ⟨0, [], 0, 0⟩
def wFetch : List UInt8 := [102, 101, 116, 99, 104]
def wFrom : List UInt8 := [102, 114, 111, 109]
def wTo : List UInt8 := [116, 111]
def wBar : List UInt8 := [124]
def wComma : List UInt8 := [44]
def wOpen : List UInt8 := [40]
def wShut : List UInt8 := [41]
def wColon : List UInt8 := [58]
def wBy : List UInt8 := [98, 121]
def wOr : List UInt8 := [111, 114]
def wAnd : List UInt8 := [97, 110, 100]
def wNot : List UInt8 := [110, 111, 116]
def wHas : List UInt8 := [104, 97, 115]
def aggW : List (List UInt8) := [[99, 111, 117, 110, 116], [115, 117, 109], [109, 105, 110], [109, 97, 120], [109, 101, 97, 110], [109, 101, 114, 103, 101]]
def howW : List (List UInt8) := [[61], [33, 61], [60], [60, 61], [62], [62, 61]]
def boolW : List (List UInt8) := [[102, 97, 108, 115, 101], [116, 114, 117, 101]]
def stepW : List (List UInt8) := [[119, 104, 101, 114, 101], [107, 101, 101, 112], [97, 108, 105, 103, 110], [103, 114, 111, 117, 112], [116, 111, 112], [106, 111, 105, 110], [117, 110, 105, 111, 110]]
def takeS (ts : List Tp) (k : Int) (i : Nat) : Rs Tp := if isK ts i k then .ok (hereS ts i) (i + 1) else .bad i 120
def wantS (ts : List Tp) (x : List UInt8) (i : Nat) : Rs Unit := if isW ts i x then .ok () (i + 1) else .bad i 120
def nameS (ts : List Tp) (i : Nat) : Rs (List UInt8) := (takeS ts 1 i).and fun t j => .ok t.s j
def numS' (ts : List Tp) (i : Nat) : Rs Int := (takeS ts 2 i).and fun t j => .ok t.n j
def textV (ts : List Tp) (i : Nat) : Rs (Int × Int × List UInt8) := (takeS ts 3 i).and fun t j => .ok (2, 0, t.s) j
def idxOf (ts : List Tp) (i : Nat) : List (List UInt8) → Nat → Option Nat
  | [], _ => none
  | x :: r, k => if isW ts i x then some k else idxOf ts i r (k + 1)
def oneOfS (ts : List Tp) (ws : List (List UInt8)) (i : Nat) : Rs Nat := match idxOf ts i ws 0 with
  | some k => .ok k (i + 1)
  | none => .bad i 120
def moreS {α : Type} (ts : List Tp) (one : Nat → Rs α) : Nat → List α → Nat → Rs (List α)
  | 0, acc, i => .ok acc i
  | f + 1, acc, i => if isW ts i wComma then (one (i + 1)).and fun x j => moreS ts one f (acc ++ [x]) j else .ok acc i
def listS {α : Type} (ts : List Tp) (one : Nat → Rs α) (i : Nat) : Rs (List α) := (one i).and fun x j => moreS ts one ts.length [x] j
def aggS (ts : List Tp) (i : Nat) : Rs (Int × List UInt8) := (oneOfS ts aggW i).and fun k j =>
  if k = 0 then .ok (1, []) j else (nameS ts j).and fun x j => .ok (1 + (k : Int), x) j
def valueS (ts : List Tp) (i : Nat) : Rs (Int × Int × List UInt8) :=
  if isK ts i 2 then (numS' ts i).and fun n j => .ok (1, n, []) j
  else if isK ts i 3 then textV ts i
  else (oneOfS ts boolW i).and fun k j => .ok (3, (k : Int), []) j
def testS (ts : List Tp) (i : Nat) : Rs Np := (nameS ts i).and fun x j =>
  if isW ts j wHas then (textV ts (j + 1)).and fun v j => .ok { n0 with kind := 15, s := x, vk := v.1, vn := v.2.1, vs := v.2.2 } j
  else (oneOfS ts howW j).and fun k j => (valueS ts j).and fun v j => .ok { n0 with kind := 14, s := x, n := 1 + (k : Int), vk := v.1, vn := v.2.1, vs := v.2.2 } j
def fetchS (ts : List Tp) (i : Nat) : Rs Np := (wantS ts wFetch i).and fun _ j => (nameS ts j).and fun x j =>
  if isW ts j wFrom then (numS' ts (j + 1)).and fun a j => (wantS ts wTo j).and fun _ j => (numS' ts j).and fun b j => .ok { n0 with kind := 1, s := x, from_ := a, to_ := b } j
  else .ok { n0 with kind := 1, s := x, to_ := 1099511627775 } j
/- What lays nodes: its node's number, the nodes. -/
abbrev PN := Nat → List Np → Rs (Nat × List Np)
def chainL (ts : List Tp) (x : List UInt8) (kind : Int) (part : PN) : Nat → Nat → Nat → List Np → Rs (Nat × List Np)
  | 0, a, i, ns => .ok (a, ns) i
  | f + 1, a, i, ns => if isW ts i x then (part (i + 1) ns).and fun r j => chainL ts x kind part f r.2.length j (r.2 ++ [{ n0 with kind := kind, l := [(a : Int), (r.1 : Int)] }]) else .ok (a, ns) i
def chainS (ts : List Tp) (x : List UInt8) (kind : Int) (part : PN) : PN := fun i ns => (part i ns).and fun r j => chainL ts x kind part ts.length r.1 j r.2
def bothB (ts : List Tp) (p : PN) : PN := chainS ts wAnd 11 p
def condB (ts : List Tp) (p : PN) : PN := chainS ts wOr 12 (bothB ts p)
/- Between brackets; deep: what may stand within. -/
def inBr (ts : List Tp) (deep : Option PN) : PN := fun i ns =>
  if isW ts i wOpen then match deep with
    | none => .bad i 2
    | some p => (p (i + 1) ns).and fun r j => (wantS ts wShut j).and fun _ j => .ok r j
  else .bad i 120
def notB (ts : List Tp) (deep : Option PN) : PN := fun i ns =>
  if isW ts i wNot then match deep with
    | none => .bad i 2
    | some p => (p (i + 1) ns).and fun r j => .ok (r.2.length, r.2 ++ [{ n0 with kind := 13, l := [(r.1 : Int)] }]) j
  else if isW ts i wOpen then inBr ts (deep.map (condB ts)) i ns
  else (testS ts i).and fun n j => .ok (ns.length, ns ++ [n]) j
def notS (ts : List Tp) : Nat → PN
  | 0 => notB ts none
  | d + 1 => notB ts (some (notS ts d))
def condS (ts : List Tp) (d : Nat) : PN := condB ts (notS ts d)
def laidN (k : Int) (rows : Nat) : Np := { n0 with kind := k, l := [(rows : Int)] }
/- A step: its node, and the nodes ahead of it. -/
def stepB (ts : List Tp) (cond : PN) (deep : Option PN) (rows : Nat) (i : Nat) (ns : List Np) : Rs (Np × List Np) :=
  (oneOfS ts stepW i).and fun k j => match k with
    | 0 => (cond j ns).and fun r j => .ok ({ n0 with kind := 2, l := [(rows : Int), (r.1 : Int)] }, r.2) j
    | 1 => (listS ts (nameS ts) j).and fun l j => .ok ({ laidN 3 rows with names := l }, ns) j
    | 2 => (numS' ts j).and fun n j => .ok ({ laidN 4 rows with n := n }, ns) j
    | 3 => if isW ts j wColon then (listS ts (aggS ts) (j + 1)).and fun l j => .ok ({ laidN 5 rows with aggs := l }, ns) j
        else (listS ts (nameS ts) j).and fun l j => (wantS ts wColon j).and fun _ j => (listS ts (aggS ts) j).and fun g j => .ok ({ laidN 5 rows with names := l, aggs := g }, ns) j
    | 4 => (numS' ts j).and fun n j => (wantS ts wBy j).and fun _ j => (nameS ts j).and fun x j => .ok ({ laidN 6 rows with n := n, s := x }, ns) j
    | 5 => (inBr ts deep j ns).and fun r j => .ok ({ n0 with kind := 7, l := [(rows : Int), (r.1 : Int)] }, r.2) j
    | _ => (inBr ts deep j ns).and fun r j => .ok ({ n0 with kind := 8, l := [(rows : Int), (r.1 : Int)] }, r.2) j
def stepsL (ts : List Tp) (step : Nat → Nat → List Np → Rs (Np × List Np)) : Nat → Nat → Nat → List Np → Rs (Nat × List Np)
  | 0, a, i, ns => .ok (a, ns) i
  | f + 1, a, i, ns => if isW ts i wBar then (step a (i + 1) ns).and fun r j => stepsL ts step f r.2.length j (r.2 ++ [r.1]) else .ok (a, ns) i
def queryB (ts : List Tp) (cond : PN) (deep : Option PN) : PN := fun i ns => (fetchS ts i).and fun n j => stepsL ts (stepB ts cond deep) ts.length ns.length j (ns ++ [n])
def queryS (ts : List Tp) : Nat → PN
  | 0 => queryB ts (condS ts 0) none
  | d + 1 => queryB ts (condS ts (d + 1)) (some (queryS ts d))
/- All of it. -/
def wholeS (ts : List Tp) (p : PN) : List Np × Nat × Int :=
  if 1024 < ts.length then ([], 0, 2) else match p 0 [] with
    | .bad i c => ([], i, c)
    | .ok r j => if j < ts.length then ([], j, 120) else if 128 < r.2.length then ([], 0, 2) else (r.2, 0, 0)
def parseS (ts : List Tp) : List Np × Nat × Int := wholeS ts (queryS ts 16)
def condW (ts : List Tp) : List Np × Nat × Int := wholeS ts (condS ts 16)

theorem isW_lt {ts : List Tp} {i : Nat} {x : List UInt8} (h : isW ts i x = true) : i < ts.length := by
  unfold isW at h
  cases e : ts[i]? with
  | none => rw [e] at h; cases h
  | some t => exact (List.getElem?_eq_some_iff.1 e).1
theorem isK_lt {ts : List Tp} {i : Nat} {k : Int} (h : isK ts i k = true) : i < ts.length := by
  unfold isK at h
  cases e : ts[i]? with
  | none => rw [e] at h; cases h
  | some t => exact (List.getElem?_eq_some_iff.1 e).1
theorem and_ok {α β : Type} {r : Rs α} {f : α → Nat → Rs β} {y : β} {j : Nat} (h : r.and f = .ok y j) : ∃ x i, r = .ok x i ∧ f x i = .ok y j := by
  cases r with
  | bad i c => simp [Rs.and] at h
  | ok x i => exact ⟨x, i, rfl, h⟩
/- What reads goes on by at least k tokens, and not beyond the end. -/
def Go1 (ts : List Tp) {α : Type} (k : Nat) (p : Nat → Rs α) : Prop := ∀ i x j, p i = .ok x j → i + k ≤ j ∧ j ≤ ts.length
theorem take_go (ts : List Tp) (k : Int) : Go1 ts 1 (takeS ts k) := by
  intro i x j h
  unfold takeS at h
  split at h
  · rename_i hk; cases h; have := isK_lt hk; omega
  · cases h
theorem want_go (ts : List Tp) (x : List UInt8) : Go1 ts 1 (wantS ts x) := by
  intro i y j h
  unfold wantS at h
  split at h
  · rename_i hk; cases h; have := isW_lt hk; omega
  · cases h
theorem name_go (ts : List Tp) : Go1 ts 1 (nameS ts) := by
  intro i x j h
  obtain ⟨t, i1, h1, h2⟩ := and_ok h
  cases h2; exact take_go ts 1 i t _ h1
theorem num_go (ts : List Tp) : Go1 ts 1 (numS' ts) := by
  intro i x j h
  obtain ⟨t, i1, h1, h2⟩ := and_ok h
  cases h2; exact take_go ts 2 i t _ h1
theorem text_go (ts : List Tp) : Go1 ts 1 (textV ts) := by
  intro i x j h
  obtain ⟨t, i1, h1, h2⟩ := and_ok h
  cases h2; exact take_go ts 3 i t _ h1
theorem idxOf_is {ts : List Tp} {i : Nat} : ∀ {ws : List (List UInt8)} {k m : Nat}, idxOf ts i ws k = some m → (∃ x, ws[m - k]? = some x ∧ isW ts i x = true) ∧ k ≤ m
  | [], k, m, h => by simp [idxOf] at h
  | x :: r, k, m, h => by
    unfold idxOf at h
    split at h
    · rename_i hx; cases h; exact ⟨⟨x, by simp, hx⟩, Nat.le_refl _⟩
    · obtain ⟨⟨y, hy, hw⟩, hle⟩ := idxOf_is h
      refine ⟨⟨y, ?_, hw⟩, by omega⟩
      have e : m - k = (m - (k + 1)) + 1 := by omega
      rw [e]; simpa using hy
theorem oneOf_go (ts : List Tp) (ws : List (List UInt8)) : Go1 ts 1 (oneOfS ts ws) := by
  intro i x j h
  unfold oneOfS at h
  split at h
  · rename_i k hk; cases h
    obtain ⟨⟨y, _, hw⟩, _⟩ := idxOf_is hk
    have := isW_lt hw; omega
  · cases h
theorem oneOf_lt {ts : List Tp} {ws : List (List UInt8)} {i k j : Nat} (h : oneOfS ts ws i = .ok k j) : k < ws.length := by
  unfold oneOfS at h
  split at h
  · rename_i k hk; cases h
    obtain ⟨⟨y, hy, _⟩, _⟩ := idxOf_is hk
    have := (List.getElem?_eq_some_iff.1 hy).1; omega
  · cases h
theorem more_go {α : Type} {ts : List Tp} {one : Nat → Rs α} (ho : Go1 ts 1 one) : ∀ f acc i x j, i ≤ ts.length → moreS ts one f acc i = .ok x j → i ≤ j ∧ j ≤ ts.length
  | 0, acc, i, x, j, hi, h => by simp [moreS] at h; omega
  | f + 1, acc, i, x, j, hi, h => by
    unfold moreS at h
    split at h
    · obtain ⟨y, i1, h1, h2⟩ := and_ok h
      have g1 := ho _ _ _ h1
      have := more_go ho f _ _ _ _ g1.2 h2; omega
    · cases h; omega
theorem list_go {α : Type} {ts : List Tp} {one : Nat → Rs α} (ho : Go1 ts 1 one) : Go1 ts 1 (listS ts one) := by
  intro i x j h
  obtain ⟨y, i1, h1, h2⟩ := and_ok h
  have g1 := ho _ _ _ h1
  have := more_go ho _ _ _ _ _ g1.2 h2; omega
theorem agg_go (ts : List Tp) : Go1 ts 1 (aggS ts) := by
  intro i x j h
  obtain ⟨k, i1, h1, h2⟩ := and_ok h
  have g1 := oneOf_go ts _ _ _ _ h1
  split at h2
  · cases h2; exact g1
  · obtain ⟨y, i2, h3, h4⟩ := and_ok h2
    have g2 := name_go ts _ _ _ h3
    cases h4; omega
theorem value_go (ts : List Tp) : Go1 ts 1 (valueS ts) := by
  intro i x j h
  unfold valueS at h
  split at h
  · obtain ⟨k, i1, h1, h2⟩ := and_ok h
    have g1 := num_go ts _ _ _ h1
    cases h2; exact g1
  · split at h
    · exact text_go ts _ _ _ h
    · obtain ⟨k, i1, h1, h2⟩ := and_ok h
      have g1 := oneOf_go ts _ _ _ _ h1
      cases h2; exact g1
theorem test_go (ts : List Tp) : Go1 ts 1 (testS ts) := by
  intro i x j h
  obtain ⟨k, i1, h1, h2⟩ := and_ok h
  have g1 := name_go ts _ _ _ h1
  split at h2
  · obtain ⟨y, i2, h3, h4⟩ := and_ok h2
    have g2 := text_go ts _ _ _ h3
    cases h4; omega
  · obtain ⟨y, i2, h3, h4⟩ := and_ok h2
    obtain ⟨z, i3, h5, h6⟩ := and_ok h4
    have g2 := oneOf_go ts _ _ _ _ h3
    have g3 := value_go ts _ _ _ h5
    cases h6; omega
theorem fetch_go (ts : List Tp) : Go1 ts 1 (fetchS ts) := by
  intro i x j h
  obtain ⟨_, i1, h1, h2⟩ := and_ok h
  obtain ⟨_, i2, h3, h4⟩ := and_ok h2
  have g1 := want_go ts _ _ _ _ h1
  have g2 := name_go ts _ _ _ h3
  split at h4
  · obtain ⟨_, i3, h5, h6⟩ := and_ok h4
    obtain ⟨_, i4, h7, h8⟩ := and_ok h6
    obtain ⟨_, i5, h9, h10⟩ := and_ok h8
    have g3 := num_go ts _ _ _ h5
    have g4 := want_go ts _ _ _ _ h7
    have g5 := num_go ts _ _ _ h9
    cases h10; omega
  · cases h4; omega
/- So do those that lay nodes, one node a token at most; the node that they name is there. -/
def GoN (ts : List Tp) (p : PN) : Prop := ∀ i ns r j, p i ns = .ok r j → i + 1 ≤ j ∧ j ≤ ts.length ∧ r.2.length + i ≤ ns.length + j ∧ r.1 < r.2.length ∧ ns.length ≤ r.2.length
theorem chainL_go {ts : List Tp} {x : List UInt8} {kind : Int} {p : PN} (hp : GoN ts p) : ∀ f a i ns r j, i ≤ ts.length → a < ns.length → chainL ts x kind p f a i ns = .ok r j → i ≤ j ∧ j ≤ ts.length ∧ r.2.length + i ≤ ns.length + j ∧ r.1 < r.2.length ∧ ns.length ≤ r.2.length
  | 0, a, i, ns, r, j, hi, ha, h => by simp [chainL] at h; obtain ⟨rfl, rfl⟩ := h; exact ⟨by omega, hi, by simp, ha, Nat.le_refl _⟩
  | f + 1, a, i, ns, r, j, hi, ha, h => by
    unfold chainL at h
    split at h
    · obtain ⟨y, i1, h1, h2⟩ := and_ok h
      have g1 := hp _ _ _ _ h1
      have := chainL_go hp f _ _ _ _ _ g1.2.1 (by simp) h2
      simp only [List.length_append, List.length_cons, List.length_nil] at this
      omega
    · cases h; exact ⟨by omega, hi, by simp, ha, Nat.le_refl _⟩
theorem chain_go {ts : List Tp} {x : List UInt8} {kind : Int} {p : PN} (hp : GoN ts p) : GoN ts (chainS ts x kind p) := by
  intro i ns r j h
  obtain ⟨y, i1, h1, h2⟩ := and_ok h
  have g1 := hp _ _ _ _ h1
  have := chainL_go hp _ _ _ _ _ _ g1.2.1 g1.2.2.2.1 h2
  omega
theorem both_go {ts : List Tp} {p : PN} (hp : GoN ts p) : GoN ts (bothB ts p) := chain_go hp
theorem condB_go {ts : List Tp} {p : PN} (hp : GoN ts p) : GoN ts (condB ts p) := chain_go (both_go hp)
theorem inBr_go {ts : List Tp} {o : Option PN} (hp : ∀ p, o = some p → GoN ts p) : GoN ts (inBr ts o) := by
  intro i ns r j h
  unfold inBr at h
  split at h
  · cases o with
    | none => cases h
    | some p =>
      obtain ⟨y, i1, h1, h2⟩ := and_ok h
      obtain ⟨_, i2, h3, h4⟩ := and_ok h2
      have g1 := hp p rfl _ _ _ _ h1
      have g2 := want_go ts _ _ _ _ h3
      cases h4; omega
  · cases h
theorem notB_go {ts : List Tp} {o : Option PN} (hp : ∀ p, o = some p → GoN ts p) : GoN ts (notB ts o) := by
  intro i ns r j h
  unfold notB at h
  split at h
  · cases o with
    | none => cases h
    | some p =>
      obtain ⟨y, i1, h1, h2⟩ := and_ok h
      have g1 := hp p rfl _ _ _ _ h1
      cases h2
      simp; omega
  · split at h
    · refine inBr_go ?_ _ _ _ _ h
      intro q hq
      cases o with
      | none => cases hq
      | some p => cases hq; exact condB_go (hp p rfl)
    · obtain ⟨y, i1, h1, h2⟩ := and_ok h
      have g1 := test_go ts _ _ _ h1
      cases h2
      simp; omega
theorem not_go (ts : List Tp) : ∀ d, GoN ts (notS ts d)
  | 0 => notB_go (fun p h => by cases h)
  | d + 1 => notB_go (fun p h => by cases h; exact not_go ts d)
theorem cond_go (ts : List Tp) (d : Nat) : GoN ts (condS ts d) := condB_go (not_go ts d)
theorem stepB_go {ts : List Tp} {c : PN} {o : Option PN} (hc : GoN ts c) (hp : ∀ p, o = some p → GoN ts p) (rows i : Nat) (ns : List Np) (r : Np × List Np) (j : Nat) (h : stepB ts c o rows i ns = .ok r j) : i + 1 ≤ j ∧ j ≤ ts.length ∧ r.2.length + i ≤ ns.length + j ∧ ns.length ≤ r.2.length := by
  obtain ⟨k, i1, h1, h2⟩ := and_ok h
  have g1 := oneOf_go ts _ _ _ _ h1
  split at h2
  · obtain ⟨y, i2, h3, h4⟩ := and_ok h2
    have g2 := hc _ _ _ _ h3
    cases h4; simp; omega
  · obtain ⟨y, i2, h3, h4⟩ := and_ok h2
    have g2 := list_go (name_go ts) _ _ _ h3
    cases h4; simp; omega
  · obtain ⟨y, i2, h3, h4⟩ := and_ok h2
    have g2 := num_go ts _ _ _ h3
    cases h4; simp; omega
  · split at h2
    · obtain ⟨y, i2, h3, h4⟩ := and_ok h2
      have g2 := list_go (agg_go ts) _ _ _ h3
      cases h4; simp; omega
    · obtain ⟨y, i2, h3, h4⟩ := and_ok h2
      obtain ⟨_, i3, h5, h6⟩ := and_ok h4
      obtain ⟨_, i4, h7, h8⟩ := and_ok h6
      have g2 := list_go (name_go ts) _ _ _ h3
      have g3 := want_go ts _ _ _ _ h5
      have g4 := list_go (agg_go ts) _ _ _ h7
      cases h8; simp; omega
  · obtain ⟨y, i2, h3, h4⟩ := and_ok h2
    obtain ⟨_, i3, h5, h6⟩ := and_ok h4
    obtain ⟨_, i4, h7, h8⟩ := and_ok h6
    have g2 := num_go ts _ _ _ h3
    have g3 := want_go ts _ _ _ _ h5
    have g4 := name_go ts _ _ _ h7
    cases h8; simp; omega
  · obtain ⟨y, i2, h3, h4⟩ := and_ok h2
    have g2 := inBr_go hp _ _ _ _ h3
    cases h4; simp; omega
  · obtain ⟨y, i2, h3, h4⟩ := and_ok h2
    have g2 := inBr_go hp _ _ _ _ h3
    cases h4; simp; omega
theorem stepsL_go {ts : List Tp} {c : PN} {o : Option PN} (hc : GoN ts c) (hp : ∀ p, o = some p → GoN ts p) : ∀ f a i ns r j, i ≤ ts.length → a < ns.length → stepsL ts (stepB ts c o) f a i ns = .ok r j → i ≤ j ∧ j ≤ ts.length ∧ r.2.length + i ≤ ns.length + j ∧ r.1 < r.2.length ∧ ns.length ≤ r.2.length
  | 0, a, i, ns, r, j, hi, ha, h => by simp [stepsL] at h; obtain ⟨rfl, rfl⟩ := h; exact ⟨by omega, hi, by simp, ha, Nat.le_refl _⟩
  | f + 1, a, i, ns, r, j, hi, ha, h => by
    unfold stepsL at h
    split at h
    · obtain ⟨y, i1, h1, h2⟩ := and_ok h
      have g1 := stepB_go hc hp _ _ _ _ _ h1
      have := stepsL_go hc hp f _ _ _ _ _ g1.2.1 (by simp) h2
      simp only [List.length_append, List.length_cons, List.length_nil] at this
      omega
    · cases h; exact ⟨by omega, hi, by simp, ha, Nat.le_refl _⟩
theorem queryB_go {ts : List Tp} {c : PN} {o : Option PN} (hc : GoN ts c) (hp : ∀ p, o = some p → GoN ts p) : GoN ts (queryB ts c o) := by
  intro i ns r j h
  obtain ⟨y, i1, h1, h2⟩ := and_ok h
  have g1 := fetch_go ts _ _ _ h1
  have := stepsL_go hc hp _ _ _ _ _ _ g1.2 (by simp) h2
  simp only [List.length_append, List.length_cons, List.length_nil] at this
  omega
theorem query_go (ts : List Tp) : ∀ d, GoN ts (queryS ts d)
  | 0 => queryB_go (cond_go ts 0) (fun p h => by cases h)
  | d + 1 => queryB_go (cond_go ts (d + 1)) (fun p h => by cases h; exact query_go ts d)
end Go.Proofs.Ytcidijjbcebcbaa
