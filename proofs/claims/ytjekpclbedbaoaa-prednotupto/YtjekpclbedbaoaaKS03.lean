/-
  The tokens of a text as plain functions of its bytes.
  Texts as rows of bytes; what the small functions answer of a byte.
  What span returns.
  What word returns.
  What strings.HasPrefix and strings.TrimPrefix return.
  What sign returns, where the table of signs stands as the program lays it.
  A box of a token in a world that has gone on.
  
  What number returns: the digits of a number, what strconv.ParseInt makes of them.
  What number returns.
  Rows of bytes of a call's own: append, and their text.
  What text returns.
  What first returns.
-/
import Derived.Test.YtjekpclbedbaoaaProg
import Derived.KernelRfl
import Derived.WalkKit
import Derived.WalkSpells
import Derived.WalkLawsBesides
import Derived.Deep.RegionWith
import Derived.Deep.Light
import Derived.BigQuiet
import Derived.ChangeKeysEq
import Derived.Handy
import Derived.Lib.AtoiErrMem
import Derived.Lib.ParseIntB
import Derived.Lib.ConvBytes
import Derived.Lib.SmallJoins
import Derived.Lib.Builder
namespace Go.Proofs.Ytjekpclbedbaoaa

def isBl (c : UInt8) : Bool := decide (c.toNat = 32 ∨ c.toNat = 9 ∨ c.toNat = 10 ∨ c.toNat = 13)
def isLe (c : UInt8) : Bool := decide (97 ≤ c.toNat ∧ c.toNat ≤ 122)
def isDg (c : UInt8) : Bool := decide (48 ≤ c.toNat ∧ c.toNat ≤ 57)
def isWd (c : UInt8) : Bool := decide ((97 ≤ c.toNat ∧ c.toNat ≤ 122) ∨ (48 ≤ c.toNat ∧ c.toNat ≤ 57) ∨ c.toNat = 95)
def nSl (c : UInt8) : Bool := decide (c.toNat = 34 ∨ c.toNat = 92)

def spanN (p : UInt8 → Bool) : List UInt8 → Nat
  | [] => 0
  | c :: r => if p c then spanN p r + 1 else 0

theorem spanN_le (p : UInt8 → Bool) : ∀ l, spanN p l ≤ l.length
  | [] => Nat.le_refl _
  | c :: r => by
    unfold spanN
    split
    · have := spanN_le p r; simp; omega
    · omega
theorem spanN_all (p : UInt8 → Bool) : ∀ (l : List UInt8) (i : Nat) (h : i < l.length), i < spanN p l → p l[i] = true
  | [], i, h, _ => by simp at h
  | c :: r, i, h, hi => by
    unfold spanN at hi
    split at hi
    · rename_i hc
      cases i with
      | zero => simpa using hc
      | succ i => simpa using spanN_all p r i (by simpa using h) (by omega)
    · omega
theorem spanN_stop (p : UInt8 → Bool) : ∀ (l : List UInt8) (h : spanN p l < l.length), p (l[spanN p l]) = false
  | [], h => by simp at h
  | c :: r, h => by
    by_cases hc : p c = true
    · have e : spanN p (c :: r) = spanN p r + 1 := by simp [spanN, hc]
      have h' : spanN p r < r.length := by rw [e] at h; simpa using h
      have := spanN_stop p r h'
      simp only [e, List.getElem_cons_succ]; exact this
    · have e : spanN p (c :: r) = 0 := by simp [spanN, hc]
      simp only [e, List.getElem_cons_zero]; simpa using hc
/-- The first place where it is not so, or the end. -/
theorem spanN_is (p : UInt8 → Bool) (l : List UInt8) (k : Nat) (hk : k ≤ l.length) (ha : ∀ i (h : i < l.length), i < k → p l[i] = true)
    (hs : k = l.length ∨ ∃ h : k < l.length, p l[k] = false) : spanN p l = k := by
  have h1 := spanN_le p l
  rcases Nat.lt_trichotomy (spanN p l) k with h | h | h
  · have := spanN_stop p l (by omega)
    rw [ha _ (by omega) h] at this; cases this
  · exact h
  · rcases hs with hs | ⟨h2, hs⟩
    · omega
    · rw [spanN_all p l k h2 h] at hs; cases hs
theorem spanN_app (p : UInt8 → Bool) (b : UInt8) (hb : p b = false) (r : List UInt8) : ∀ l, spanN p (l ++ b :: r) = spanN p l
  | [] => by simp [spanN, hb]
  | c :: l => by
    simp only [List.cons_append, spanN]
    rw [spanN_app p b hb r l]
theorem spanN_take (p : UInt8 → Bool) (l : List UInt8) : ∀ x ∈ l.take (spanN p l), p x = true := by
  intro x hx
  obtain ⟨i, hi, rfl⟩ := List.mem_iff_getElem.1 hx
  rw [List.getElem_take]
  have := hi; simp at this
  exact spanN_all p l i (by omega) (by omega)
theorem spanN_allp (p : UInt8 → Bool) : ∀ l : List UInt8, (∀ x ∈ l, p x = true) → spanN p l = l.length
  | [], _ => rfl
  | c :: r, h => by
    simp [spanN, h c (by simp), spanN_allp p r (fun x hx => h x (by simp [hx]))]
theorem spanN_mono (p q : UInt8 → Bool) (h : ∀ c, p c = true → q c = true) : ∀ l, spanN p l ≤ spanN q l
  | [] => Nat.le_refl _
  | c :: r => by
    unfold spanN
    by_cases hp : p c = true
    · rw [if_pos hp, if_pos (h c hp)]; have := spanN_mono p q h r; omega
    · rw [if_neg hp]; omega

/-! Numbers -/
def dstep (a : Nat) (c : UInt8) : Nat := a * 10 + (c.toNat - 48)
def dvalF (acc : Nat) (l : List UInt8) : Nat := l.foldl dstep acc
def dval (l : List UInt8) : Nat := dvalF 0 l
theorem dvalF_nil (acc : Nat) : dvalF acc [] = acc := rfl
theorem dvalF_cons (acc : Nat) (c : UInt8) (l : List UInt8) : dvalF acc (c :: l) = dvalF (dstep acc c) l := by simp only [dvalF, List.foldl_cons]
theorem dvalF_ge (l : List UInt8) : ∀ acc : Nat, acc * (10 ^ l.length) ≤ dvalF acc l := by
  induction l with
  | nil => intro acc; rw [dvalF_nil]; exact Nat.le_of_eq (Nat.mul_one _)
  | cons c r ih =>
    intro acc
    have := ih (dstep acc c)
    rw [dvalF_cons, List.length_cons, Nat.pow_succ]
    refine Nat.le_trans ?_ this
    rw [Nat.mul_comm (10 ^ r.length) 10, ← Nat.mul_assoc]
    exact Nat.mul_le_mul_right _ (Nat.le_add_right _ _)
theorem dvalF_acc (l : List UInt8) (acc : Nat) : acc ≤ dvalF acc l := by
  refine Nat.le_trans ?_ (dvalF_ge l acc)
  exact Nat.le_mul_of_pos_right _ (Nat.pow_pos (by decide))
theorem dvalF_append (l m : List UInt8) (acc : Nat) : dvalF acc (l ++ m) = dvalF (dvalF acc l) m := by
  simp [dvalF, List.foldl_append]

/-- What a number's digits say with or without a sign; none beyond what a number is. -/
def numV (ng : Bool) (v : Nat) : Option Int :=
  if ng then (if v ≤ 9223372036854775808 then some (-(v : Int)) else none)
  else (if v < 9223372036854775808 then some (v : Int) else none)

/-- A token without its place: its kind, its text, its number. -/
structure Tk where
  kind : Nat
  s : List UInt8
  n : Int
  at_ : Nat
instance : DecidableEq Tk := fun a b => decidable_of_iff (a.kind = b.kind ∧ a.s = b.s ∧ a.n = b.n ∧ a.at_ = b.at_) (by cases a; cases b; simp)

def wordS (xs : List UInt8) : Option (Tk × Nat) :=
  if 24 < spanN isWd xs then none else some (⟨1, xs.take (spanN isWd xs), 0, 0⟩, spanN isWd xs)
def neg1 (xs : List UInt8) : Bool := xs.head? == some 45
def digitsOf (xs : List UInt8) : List UInt8 := if neg1 xs then xs.tail else xs
def sgn1 (xs : List UInt8) : Nat := if neg1 xs then 1 else 0
def numS (xs : List UInt8) : Option (Tk × Nat) :=
  if spanN isDg (digitsOf xs) = 0 ∨ spanN isDg (digitsOf xs) ≠ spanN isWd (digitsOf xs) then none
  else if (digitsOf xs).head? = some 48 ∧ 1 < spanN isDg (digitsOf xs) + sgn1 xs then none
  else (numV (neg1 xs) (dval ((digitsOf xs).take (spanN isDg (digitsOf xs))))).map (fun v => (⟨2, [], v, 0⟩, spanN isDg (digitsOf xs) + sgn1 xs))
def txtF (acc : List UInt8) (sl : Bool) (k : Nat) : List UInt8 → Option (List UInt8 × Nat)
  | [] => none
  | c :: r =>
    if (sl && !nSl c) || decide (64 < acc.length) then none
    else if !sl && c == 34 then some (acc, k + 2)
    else if !sl && c == 92 then txtF acc true (k + 1) r
    else txtF (acc ++ [c]) false (k + 1) r
def textS (xs : List UInt8) : Option (Tk × Nat) :=
  match txtF [] false 0 xs.tail with
  | some (b, n) => some (⟨3, b, 0, 0⟩, n)
  | none => none
def signsL : List (List UInt8) := [[33, 61], [60, 61], [62, 61], [124], [44], [40], [41], [58], [61], [60], [62]]
def signS (xs : List UInt8) : Option (Tk × Nat) :=
  match signsL.find? (fun x => x.isPrefixOf xs) with
  | some x => some (⟨4, x, 0, 0⟩, x.length)
  | none => none
def firstS (xs : List UInt8) : Option (Tk × Nat) :=
  match xs with
  | [] => none
  | c :: r =>
    if isLe c then wordS (c :: r)
    else if c == 45 || isDg c then numS (c :: r)
    else if c == 34 then textS (c :: r)
    else signS (c :: r)

theorem txtF_pos : ∀ (l acc : List UInt8) (sl : Bool) (k : Nat) (b : List UInt8) (n : Nat), txtF acc sl k l = some (b, n) → k + 2 ≤ n ∧ n ≤ k + 1 + l.length
  | [], acc, sl, k, b, n, h => by simp [txtF] at h
  | c :: r, acc, sl, k, b, n, h => by
    unfold txtF at h
    split at h
    · cases h
    · split at h
      · cases h; simp; omega
      · split at h
        · have := txtF_pos r _ _ _ _ _ h; simp; omega
        · have := txtF_pos r _ _ _ _ _ h; simp; omega
theorem isLe_isWd {c : UInt8} (h : isLe c = true) : isWd c = true := by simp [isWd, isLe] at h ⊢; omega
theorem isDg_isWd {c : UInt8} (h : isDg c = true) : isWd c = true := by simp [isWd, isDg] at h ⊢; omega
theorem find_sign {xs x : List UInt8} (h : signsL.find? (fun x => x.isPrefixOf xs) = some x) : x ∈ signsL ∧ x.isPrefixOf xs = true := by
  have h1 := List.find?_some h
  have h2 := List.mem_of_find?_eq_some h
  exact ⟨h2, h1⟩
theorem signs_len {x : List UInt8} (h : x ∈ signsL) : 1 ≤ x.length ∧ x.length ≤ 2 := by
  simp only [signsL, List.mem_cons, List.not_mem_nil, or_false] at h
  rcases h with h | h | h | h | h | h | h | h | h | h | h <;> subst h <;> decide
theorem digitsOf_len (xs : List UInt8) : (digitsOf xs).length + sgn1 xs = xs.length := by
  unfold digitsOf sgn1
  by_cases h : neg1 xs = true
  · rw [if_pos h, if_pos h]
    cases xs with
    | nil => simp [neg1] at h
    | cons c r => simp
  · rw [if_neg h, if_neg h]; rfl
/-- A token takes a byte at least, and no more than there are. -/
theorem firstS_pos {xs : List UInt8} {t : Tk} {n : Nat} (h : firstS xs = some (t, n)) : 1 ≤ n ∧ n ≤ xs.length := by
  unfold firstS at h
  split at h
  · cases h
  · rename_i c r
    split at h
    · rename_i hc
      unfold wordS at h
      split at h
      · cases h
      · cases h
        refine ⟨?_, spanN_le _ _⟩
        simp [spanN, isLe_isWd hc]
    · split at h
      · unfold numS at h
        split at h
        · cases h
        · rename_i h0
          split at h
          · cases h
          · obtain ⟨v, -, h⟩ := Option.map_eq_some_iff.1 h
            cases h
            have := digitsOf_len (c :: r)
            have := spanN_le isDg (digitsOf (c :: r))
            omega
      · split at h
        · unfold textS at h
          split at h
          · rename_i b n' e
            cases h
            have := txtF_pos _ _ _ _ _ _ e
            simp at this ⊢
            omega
          · cases h
        · unfold signS at h
          split at h
          · rename_i x e
            cases h
            obtain ⟨h1, h2⟩ := find_sign e
            have h3 := signs_len h1
            have h4 := (List.isPrefixOf_iff_prefix.1 h2).length_le
            omega
          · cases h

/-- The tokens of what stands behind, with their places; or the place of what begins none. -/
def lexR : Nat → Nat → List UInt8 → Nat ⊕ List Tk
  | 0, _, _ => .inr []
  | f + 1, at_, xs =>
    match xs with
    | [] => .inr []
    | c :: r =>
      if isBl c then lexR f (at_ + 1) r
      else match firstS (c :: r) with
        | none => .inl at_
        | some (t, n) => match lexR f (at_ + n) ((c :: r).drop n) with
          | .inl e => .inl e
          | .inr l => .inr ({ t with at_ := at_ } :: l)
theorem lexR_fuel : ∀ (f g at_ : Nat) (xs : List UInt8), xs.length ≤ f → xs.length ≤ g → lexR f at_ xs = lexR g at_ xs
  | 0, g, at_, xs, hf, hg => by
    obtain rfl : xs = [] := List.eq_nil_of_length_eq_zero (by omega)
    cases g <;> rfl
  | f + 1, 0, at_, xs, hf, hg => by
    obtain rfl : xs = [] := List.eq_nil_of_length_eq_zero (by omega)
    rfl
  | f + 1, g + 1, at_, [], hf, hg => rfl
  | f + 1, g + 1, at_, c :: r, hf, hg => by
    simp only [lexR]
    split
    · exact lexR_fuel f g _ r (by simpa using hf) (by simpa using hg)
    · cases h : firstS (c :: r) with
      | none => rfl
      | some x =>
        obtain ⟨t, n⟩ := x
        have hp := firstS_pos h
        simp only
        rw [lexR_fuel f g (at_ + n) ((c :: r).drop n) (by simp at hf ⊢; omega) (by simp at hg ⊢; omega)]
def lexA (at_ : Nat) (xs : List UInt8) : Nat ⊕ List Tk := lexR xs.length at_ xs
theorem lexA_nil (a : Nat) : lexA a [] = .inr [] := rfl
theorem lexA_bl (a : Nat) {c : UInt8} (r : List UInt8) (h : isBl c = true) : lexA a (c :: r) = lexA (a + 1) r := by
  simp [lexA, lexR, h]
theorem lexA_no (a : Nat) {c : UInt8} {r : List UInt8} (h : isBl c = false) (hf : firstS (c :: r) = none) : lexA a (c :: r) = .inl a := by
  simp [lexA, lexR, h, hf]
theorem lexA_some (a : Nat) {c : UInt8} {r : List UInt8} {t : Tk} {n : Nat} (h : isBl c = false) (hf : firstS (c :: r) = some (t, n)) :
    lexA a (c :: r) = match lexA (a + n) ((c :: r).drop n) with
      | .inl e => .inl e
      | .inr l => .inr ({ t with at_ := a } :: l) := by
  have hp := firstS_pos hf
  have e : lexR r.length (a + n) ((c :: r).drop n) = lexA (a + n) ((c :: r).drop n) := lexR_fuel _ _ _ _ (by simp; omega) (by simp)
  simp only [lexA] at e ⊢
  simp only [List.length_cons, lexR, h, hf]
  rw [e]; rfl
theorem lexA_span (a : Nat) : ∀ (xs : List UInt8), lexA a xs = lexA (a + spanN isBl xs) (xs.drop (spanN isBl xs))
  | [] => rfl
  | c :: r => by
    by_cases h : isBl c = true
    · rw [lexA_bl a r h, lexA_span (a + 1) r]
      simp [spanN, h]
      congr 1; omega
    · simp [spanN, h]

end Go.Proofs.Ytjekpclbedbaoaa
namespace Go.Proofs.Ytjekpclbedbaoaa
open Go.RowKit

theorem hid {p : Prop} (h : p) : Hid p := h
def St (l : List UInt8) : ByteArray := ⟨l.toArray⟩
theorem St_size (l : List UInt8) : (St l).size = l.length := by simp [St, ByteArray.size]
theorem St_toList (l : List UInt8) : (St l).data.toList = l := by simp [St]
theorem St_get (l : List UInt8) (k : Nat) (h : k < (St l).size) : (St l)[k] = l[k]'(by rw [← St_size]; exact h) := by
  simp [St, ByteArray.getElem_eq_getElem_data]
theorem St_of (s : ByteArray) : St s.data.toList = s := by cases s; rfl
theorem idx (l : List UInt8) (k : Nat) (h : k < l.length) (w : World) : (Instr.index 9 (.string (St l)) (.int .i64 (k : Int))).run Try.prog w = .ok (.int .u8 (l[k].toNat : Int)) w := by
  have hs := St_size l
  rw [run_index_string w 9 (St l) .i64 (k : Int) Try.underlying9, dif_pos ⟨by omega, by omega⟩]
  congr 3
theorem St_extract (l : List UInt8) (a b : Nat) : (St l).extract a b = St ((l.take b).drop a) := by
  unfold St
  apply ByteArray.ext
  simp only [ByteArray.data_extract]
  apply Array.toList_inj.1
  simp [List.extract, List.drop_take]
theorem slF (l : List UInt8) (k : Nat) (h : k ≤ l.length) (w : World) : (Instr.slice 9 (.string (St l)) (some (.int .i64 (k : Int))) none none).run Try.prog w = .ok (.string (St (l.drop k))) w := by
  have hs := St_size l
  rw [run_slice_string_from_if w 9 (St l) .i64 (k : Int) Try.underlying9, if_pos (by omega)]
  congr 2
  rw [show ((k : Int)).toNat = k by omega, hs, St_extract l k l.length, List.take_length]
theorem slT (l : List UInt8) (k : Nat) (h : k ≤ l.length) (w : World) : (Instr.slice 9 (.string (St l)) none (some (.int .i64 (k : Int))) none).run Try.prog w = .ok (.string (St (l.take k))) w := by
  have hs := St_size l
  rw [run_slice_string_to_if w 9 (St l) .i64 (k : Int) Try.underlying9, if_pos (by omega)]
  congr 2
  rw [show ((k : Int)).toNat = k by omega, St_extract l 0 k, List.drop_zero]

end Go.Proofs.Ytjekpclbedbaoaa
namespace Go.Proofs.Ytjekpclbedbaoaa
open Go.RowKit

end Go.Proofs.Ytjekpclbedbaoaa
namespace Go.Proofs.Ytjekpclbedbaoaa
open Go.RowKit

abbrev TV (k : Int) (s : List UInt8) (n a : Int) : Value := .agg #[.int .i64 k, .string (St s), .int .i64 n, .int .i64 a]
def ansV : Option (Tk × Nat) → Value
  | none => .tuple #[TV 0 [] 0 0, .int .i64 0]
  | some (t, n) => .tuple #[TV t.kind t.s t.n t.at_, .int .i64 n]
theorem wordS_no {l : List UInt8} (h : 24 < spanN isWd l) : wordS l = none := by unfold wordS; rw [if_pos h]
theorem wordS_yes {l : List UInt8} (h : ¬ 24 < spanN isWd l) : wordS l = some (⟨1, l.take (spanN isWd l), 0, 0⟩, spanN isWd l) := by unfold wordS; rw [if_neg h]
end Go.Proofs.Ytjekpclbedbaoaa
namespace Go.Proofs.Ytjekpclbedbaoaa
open Go.RowKit
theorem bytes_toList_inj {s t : ByteArray} (h : s.toList = t.toList) : s = t := by
  rw [ByteArray.toList_eq, ByteArray.toList_eq] at h
  obtain ⟨⟨x⟩⟩ := s
  obtain ⟨⟨y⟩⟩ := t
  simp at h
  subst h; rfl
theorem St_inj {l p : List UInt8} (h : St l = St p) : l = p := by
  have := congrArg (fun s : ByteArray => s.data.toList) h
  simpa [St] using this
theorem St_eq (l : List UInt8) (p : List UInt8) : ((St l).toList == (St p).toList) = (l == p) := by
  rcases Decidable.em (l = p) with h | h
  · subst h; simp
  · rw [beq_eq_false_iff_ne.2 h]
    apply beq_eq_false_iff_ne.2
    intro e; exact h (St_inj (bytes_toList_inj e))
theorem pre_is (l p : List UInt8) : p.isPrefixOf l = (decide (p.length ≤ l.length) && (l.take p.length == p)) := by
  apply Bool.eq_iff_iff.2
  rw [List.isPrefixOf_iff_prefix, List.prefix_iff_eq_take]
  simp
  constructor
  · intro h
    refine ⟨?_, h.symm⟩
    have := congrArg List.length h; simp at this; omega
  · intro h; exact h.2.symm
def trimL (p l : List UInt8) : List UInt8 := if p.isPrefixOf l then l.drop p.length else l
end Go.Proofs.Ytjekpclbedbaoaa
namespace Go.Proofs.Ytjekpclbedbaoaa
open Go.RowKit
abbrev sgV : Value := .agg #[.string (St [33, 61]), .string (St [60, 61]), .string (St [62, 61]), .string (St [124]), .string (St [44]), .string (St [40]), .string (St [41]), .string (St [58]), .string (St [61]), .string (St [60]), .string (St [62])]
theorem sign_no {l : List UInt8} (h : ∀ i, i < 11 → (signsL.getD i []).isPrefixOf l = false) : signS l = none := by
  unfold signS
  rw [List.find?_eq_none.2 ?_]
  intro x hx
  obtain ⟨i, hi, rfl⟩ := List.mem_iff_getElem.1 hx
  have hi' : i < 11 := hi
  have := h i hi'
  rw [List.getD_eq_getElem?_getD, List.getElem?_eq_getElem hi] at this
  exact Bool.not_eq_true _ ▸ this
theorem find_at {α : Type} (p : α → Bool) : ∀ (L : List α) (k : Nat) (h : k < L.length), (∀ i (h : i < L.length), i < k → p L[i] = false) → p L[k] = true → L.find? p = some L[k]
  | [], k, h, _, _ => by simp at h
  | a :: L, 0, h, h1, h2 => by
    have h2' : p a = true := h2
    simp [List.find?, h2']
  | a :: L, k + 1, h, h1, h2 => by
    have h0 : p a = false := h1 0 (by simp) (by omega)
    rw [List.find?_cons, h0]
    simpa using find_at p L k (by simpa using h) (fun i hi hk => h1 (i + 1) (by simp; omega) (by omega)) h2
theorem sign_yes {l : List UInt8} {k : Nat} (hk : k < 11) (h : ∀ i, i < k → (signsL.getD i []).isPrefixOf l = false) (h2 : (signsL.getD k []).isPrefixOf l = true) :
    signS l = some (⟨4, signsL.getD k [], 0, 0⟩, (signsL.getD k []).length) := by
  have hl : signsL.length = 11 := rfl
  have e : ∀ i (h : i < signsL.length), signsL.getD i [] = signsL[i] := fun i h => by rw [List.getD_eq_getElem?_getD, List.getElem?_eq_getElem h]; rfl
  unfold signS
  rw [find_at (fun x => x.isPrefixOf l) signsL k (by omega) (fun i hi hik => by have := h i hik; rw [e i hi] at this; exact this) (by rw [e k (by omega)] at h2; exact h2)]
  rw [e k (by omega)]
theorem sgGet (k : Nat) (h : k < 11) : (signsL.getD k []).length ≤ 2 := by
  have e : signsL.getD k [] = signsL[k]'h := by rw [List.getD_eq_getElem?_getD, List.getElem?_eq_getElem (show k < signsL.length from h)]; rfl
  rw [e]; exact (signs_len (List.getElem_mem _)).2
abbrev z31 : Array Value := #[.int .i64 0, .string ⟨#[]⟩, .int .i64 0, .int .i64 0]
theorem St_nil : St [] = ⟨#[]⟩ := rfl
end Go.Proofs.Ytjekpclbedbaoaa
namespace Go.Proofs.Ytjekpclbedbaoaa
open Go.RowKit
theorem lt_of_block {w : World} {b : Nat} {o : Obj} (h : w.heap[b]? = some o) : b < w.heap.size := by
  apply Classical.byContradiction; intro hn
  rw [Array.getElem?_eq_none (by omega)] at h; cases h
theorem block_on {w w' : World} {b : Nat} {o : Obj} (h : w.heap[b]? = some o) (hb : Below w.heap.size w w') : w'.heap[b]? = some o := (hb.block b (lt_of_block h)).trans h
theorem block_cell {w : World} {b : Nat} {xs : Array Value} {t : TypeId} {fz : Nat × Nat} (h : w.heap[b]? = some (.cells xs t fz)) (o : Nat) : w.cell? ⟨b, o, none⟩ = xs[o]? := by
  simp [World.cell?, h]
theorem alloc_block (w : World) (o : Obj) : (w.alloc o).heap[w.heap.size]? = some o := by
  show (w.heap.push o)[w.heap.size]? = _
  simp
theorem block_frozen {w : World} {b : Nat} {xs : Array Value} {t : TypeId} (h : w.heap[b]? = some (.cells xs t (0, 0))) (o : Nat) : w.frozen? ⟨b, o, none⟩ = false := by
  simp [World.frozen?, h]
theorem block_set {w : World} {b : Nat} {xs : Array Value} {t : TypeId} {fz : Nat × Nat} (h : w.heap[b]? = some (.cells xs t fz)) (o : Nat) (v : Value) : (w.setCell ⟨b, o, none⟩ v).heap[b]? = some (.cells (xs.setIfInBounds o v) t fz) := by
  simp [World.setCell, Array.getElem?_modify, h]
/-- A token's box. -/
def Bx (w : World) (b : Nat) (c0 c1 c2 c3 : Value) : Prop := w.heap[b]? = some (.cells #[c0, c1, c2, c3] 67 (0, 0))
theorem Bx.cells {w : World} {b : Nat} {c0 c1 c2 c3 : Value} (h : Bx w b c0 c1 c2 c3) : w.cell? ⟨b, 0, none⟩ = some c0 ∧ w.cell? ⟨b, 1, none⟩ = some c1 ∧ w.cell? ⟨b, 2, none⟩ = some c2 ∧ w.cell? ⟨b, 3, none⟩ = some c3 :=
  ⟨block_cell h 0, block_cell h 1, block_cell h 2, block_cell h 3⟩
theorem Bx.frozen {w : World} {b : Nat} {c0 c1 c2 c3 : Value} (h : Bx w b c0 c1 c2 c3) (o : Nat) : w.frozen? ⟨b, o, none⟩ = false := block_frozen h o
theorem Bx.on {w w' : World} {b : Nat} {c0 c1 c2 c3 : Value} (h : Bx w b c0 c1 c2 c3) (hb : Below w.heap.size w w') : Bx w' b c0 c1 c2 c3 := block_on h hb
theorem Bx.made (w : World) (c0 c1 c2 c3 : Value) : Bx (w.alloc (.cells #[c0, c1, c2, c3] 67)) w.heap.size c0 c1 c2 c3 := alloc_block w _
abbrev set4 (w : World) (b : Nat) (d0 d1 d2 d3 : Value) : World := (((w.setCell ⟨b, 0, none⟩ d0).setCell ⟨b, 1, none⟩ d1).setCell ⟨b, 2, none⟩ d2).setCell ⟨b, 3, none⟩ d3
theorem Bx.set4 {w : World} {b : Nat} {c0 c1 c2 c3 : Value} (h : Bx w b c0 c1 c2 c3) (d0 d1 d2 d3 : Value) : Bx (set4 w b d0 d1 d2 d3) b d0 d1 d2 d3 :=
  block_set (block_set (block_set (block_set h 0 d0) 1 d1) 2 d2) 3 d3
theorem below_set4 {w0 w : World} {b : Nat} (h : Below w0.heap.size w0 w) (hb : w0.heap.size ≤ b) (d0 d1 d2 d3 : Value) : Below w0.heap.size w0 (set4 w b d0 d1 d2 d3) :=
  (((h.setCell (p := ⟨b, 0, none⟩) hb d0).setCell (p := ⟨b, 1, none⟩) hb d1).setCell (p := ⟨b, 2, none⟩) hb d2).setCell (p := ⟨b, 3, none⟩) hb d3
/-- What a call behind the box keeps. -/
theorem box_keep {w w3 : World} {c0 c1 c2 c3 : Value} (hb : Below (w.alloc (.cells #[c0, c1, c2, c3] 67)).heap.size (w.alloc (.cells #[c0, c1, c2, c3] 67)) w3) : Bx w3 w.heap.size c0 c1 c2 c3 ∧ Below w.heap.size w w3 :=
  ⟨(Bx.made w c0 c1 c2 c3).on hb, ((Below.refl _ w).alloc (Nat.le_refl _) _).trans (hb.mono (by simp))⟩
end Go.Proofs.Ytjekpclbedbaoaa

namespace Go.Proofs.Ytjekpclbedbaoaa
open Go.RowKit

theorem uint_digits (ds : List UInt8) : ∀ acc, (∀ x ∈ ds, isDg x = true) → acc < 18446744073709551616 →
    Lib.parseUintM 18446744073709551615 acc ds = if dvalF acc ds < 18446744073709551616 then .ok (dvalF acc ds) else .range := by
  induction ds with
  | nil => intro acc _ h; simp [Lib.parseUintM, dvalF, h]
  | cons c r ih =>
    intro acc hd h
    have hc := hd c (by simp)
    simp [isDg] at hc
    have hge := dvalF_acc r (dstep acc c)
    rw [Lib.parseUintM, if_pos hc, dvalF_cons]
    have hst : dstep acc c = acc * 10 + (c.toNat - 48) := rfl
    by_cases h1 : 1844674407370955162 ≤ acc
    · rw [if_pos h1, if_neg (by omega)]
    · rw [if_neg h1]
      by_cases h2 : 18446744073709551615 < acc * 10 + (c.toNat - 48)
      · rw [if_pos h2, if_neg (by omega)]
      · rw [if_neg h2, ← hst]
        exact ih _ (fun x hx => hd x (by simp [hx])) (by omega)
def sgnL (ng : Bool) : List UInt8 := if ng then [45] else []
def numE (ng : Bool) (v : Nat) : Lib.NumEnd Int := match numV ng v with | some x => .ok x | none => .range
theorem e64 : 2 ^ 64 - 1 = 18446744073709551615 := by simp
theorem e63 : 2 ^ (64 - 1) = 9223372036854775808 := by simp
theorem z64 : 0 < 18446744073709551616 := by omega
theorem uintB (ds : List UInt8) (hd : ∀ x ∈ ds, isDg x = true) (hne : ds ≠ []) : Lib.parseUintB 64 ds = if dval ds < 18446744073709551616 then .ok (dval ds) else .range := by
  unfold Lib.parseUintB
  rw [if_neg hne, e64]
  exact uint_digits ds 0 hd z64
theorem numV_t (v : Nat) (h : v ≤ 9223372036854775808) : numV true v = some (-(v : Int)) := by
  unfold numV; rw [if_pos rfl, if_pos h]
theorem numV_tn (v : Nat) (h : ¬ v ≤ 9223372036854775808) : numV true v = none := by
  unfold numV; rw [if_pos rfl, if_neg h]
theorem numV_f (v : Nat) (h : v < 9223372036854775808) : numV false v = some (v : Int) := by
  unfold numV; rw [if_neg Bool.false_ne_true, if_pos h]
theorem numV_fn (v : Nat) (h : ¬ v < 9223372036854775808) : numV false v = none := by
  unfold numV; rw [if_neg Bool.false_ne_true, if_neg h]
theorem numE_t (v : Nat) : (if ¬True ∧ 9223372036854775808 ≤ v then (.range : Lib.NumEnd Int) else if True ∧ 9223372036854775808 < v then .range else .ok (if True then -(v : Int) else v)) = numE true v := by
  rw [if_neg (fun h => h.1 trivial)]
  unfold numE
  by_cases h2 : v ≤ 9223372036854775808
  · rw [numV_t v h2, if_neg (fun h => Nat.not_lt.2 h2 h.2), if_pos trivial]
  · rw [numV_tn v h2, if_pos ⟨trivial, Nat.not_le.1 h2⟩]
theorem numE_f (v : Nat) : (if ¬False ∧ 9223372036854775808 ≤ v then (.range : Lib.NumEnd Int) else if False ∧ 9223372036854775808 < v then .range else .ok (if False then -(v : Int) else v)) = numE false v := by
  rw [if_neg (fun h : False ∧ 9223372036854775808 < v => h.1)]
  unfold numE
  rcases Nat.lt_or_ge v 9223372036854775808 with h2 | h2
  · rw [if_neg (fun h => Nat.not_le.2 h2 h.2), numV_f v h2, if_neg (fun h => h)]
  · rw [if_pos ⟨fun h => h, h2⟩, numV_fn v (fun h => Nat.not_lt.2 h2 h)]
theorem numE_big (ng : Bool) (v : Nat) (h : ¬ v < 18446744073709551616) : numE ng v = .range := by
  unfold numE
  cases ng
  · rw [numV_fn v (by omega)]
  · rw [numV_tn v (by omega)]
theorem parse_digits (ng : Bool) (ds : List UInt8) (hd : ∀ x ∈ ds, isDg x = true) (hne : ds ≠ []) : Lib.parseIntB 64 (sgnL ng ++ ds) = numE ng (dval ds) := by
  have hu := uintB ds hd hne
  cases ng with
  | true =>
    show Lib.parseIntB 64 (45 :: ds) = _
    unfold Lib.parseIntB
    simp only [show (UInt8.toNat 45) = 45 from rfl]
    rw [if_pos (Or.inr trivial), hu, e63]
    by_cases h : dval ds < 18446744073709551616
    · rw [if_pos h]; exact numE_t _
    · rw [if_neg h, numE_big _ _ h]
  | false =>
    cases ds with
    | nil => exact absurd rfl hne
    | cons c r =>
      have hc := hd c (by simp)
      simp [isDg] at hc
      show Lib.parseIntB 64 (c :: r) = _
      unfold Lib.parseIntB
      have h45 : (c.toNat = 45) = False := by simp; omega
      simp only [h45]
      rw [if_neg (fun h => h.elim (by omega) id), hu, e63]
      by_cases h : dval (c :: r) < 18446744073709551616
      · rw [if_pos h]; exact numE_f _
      · rw [if_neg h, numE_big _ _ h]
theorem bytes_below (w : World) (t : _) : Below w.heap.size w (Lib.bytesWorld w 5 t) := Lib.bytesWorld_below _ _ _
end Go.Proofs.Ytjekpclbedbaoaa
namespace Go.Proofs.Ytjekpclbedbaoaa
open Go.RowKit

theorem trim_dig (l : List UInt8) : trimL [45] l = digitsOf l := by
  unfold trimL digitsOf neg1
  cases l with
  | nil => rfl
  | cons c r =>
    by_cases h : c = 45
    · subst h; rfl
    · have h1 : ([45] : List UInt8).isPrefixOf (c :: r) = false := by simp [List.isPrefixOf]; exact fun e => h e.symm
      have h2 : ((c :: r).head? == some 45) = false := by simp [h]
      rw [h1, h2]; rfl
theorem sgn_digits (l : List UInt8) : sgnL (neg1 l) ++ digitsOf l = l := by
  unfold digitsOf sgnL
  by_cases h : neg1 l = true
  · rw [if_pos h, if_pos h]
    cases l with
    | nil => simp [neg1] at h
    | cons c r => simp [neg1] at h; subst h; rfl
  · rw [if_neg h, if_neg h]; rfl
theorem sgnL_len (l : List UInt8) : (sgnL (neg1 l)).length = sgn1 l := by
  unfold sgnL sgn1; split <;> rfl
theorem take_digits (l : List UInt8) (n : Nat) : l.take (n + sgn1 l) = sgnL (neg1 l) ++ (digitsOf l).take n := by
  have h := sgn_digits l
  have h2 := sgnL_len l
  generalize neg1 l = ng at *
  generalize digitsOf l = D at *
  generalize sgn1 l = g at *
  subst h
  rw [List.take_append, h2, List.take_of_length_le (by omega), show n + g - g = n by omega]
theorem numS_a {l : List UInt8} (h : spanN isDg (digitsOf l) = 0) : numS l = none := by unfold numS; rw [if_pos (.inl h)]
theorem numS_b {l : List UInt8} (h : spanN isDg (digitsOf l) ≠ spanN isWd (digitsOf l)) : numS l = none := by unfold numS; rw [if_pos (.inr h)]
theorem numS_c {l : List UInt8} (h : ¬ spanN isDg (digitsOf l) = 0) (h1 : spanN isDg (digitsOf l) = spanN isWd (digitsOf l)) (h2 : (digitsOf l).head? = some 48 ∧ 1 < spanN isDg (digitsOf l) + sgn1 l) : numS l = none := by
  unfold numS; rw [if_neg (fun h3 => h3.elim h (fun h4 => h4 h1)), if_pos h2]
theorem numS_d {l : List UInt8} (h : ¬ spanN isDg (digitsOf l) = 0) (h1 : spanN isDg (digitsOf l) = spanN isWd (digitsOf l)) (h2 : ¬ ((digitsOf l).head? = some 48 ∧ 1 < spanN isDg (digitsOf l) + sgn1 l)) :
    numS l = (numV (neg1 l) (dval ((digitsOf l).take (spanN isDg (digitsOf l))))).map (fun v => (⟨2, [], v, 0⟩, spanN isDg (digitsOf l) + sgn1 l)) := by
  unfold numS; rw [if_neg (fun h3 => h3.elim h (fun h4 => h4 h1)), if_neg h2]
theorem head_idx {D : List UInt8} (h : 0 < D.length) : D.head? = some (D[0]) := by
  cases D with
  | nil => simp at h
  | cons c r => rfl
abbrev boxW (w : World) : World := w.alloc (.cells z31 67)
end Go.Proofs.Ytjekpclbedbaoaa
namespace Go.Proofs.Ytjekpclbedbaoaa
open Go.RowKit Go.Joins

def bytesV (l : List UInt8) : List Value := l.map fun b => .int .u8 (b.toNat : Int)

theorem Try.info5 : (Try.prog.info? 5).map (fun i => (i.zero, i.size, i.bytes)) = some (some (.int .u8 0), 1, 1) := by kernel_rfl
theorem alloc_cell (w : World) (x : Value) (t : TypeId) : (w.alloc (.cells #[x] t)).cell? ⟨w.heap.size, 0, none⟩ = some x := by simp [go_sem]
theorem app1 {ops : Array Oper} {rest : List Oper} {o : Oper} {a : Act} {Q : Exit → Act → World → Prop} {w : World} {B n : Nat} {xs : List Value} {v c : Value} {g : Nat}
    (hgd : o.guard = none) (s x : Operand) (ho : o.op = .call { callee := .builtin .append, args := #[s, x], argTypes := #[114, 114] })
    (hs : a.eval s = v) (hown : w.ownsRow B 5 1 v n xs) (hx : a.eval x = .slice (some ⟨g, 0, none⟩) 1 1) (hc : w.cell? ⟨g, 0, none⟩ = some c) (h1 : c.oneCell' = true) (hn : n ≤ 1000000) (hB : B ≤ w.heap.size)
    (h : ∀ v' w', w'.ownsRow B 5 1 v' (n + 1) (xs ++ [c]) → Below B w w' → wpList Try.prog ops Q rest (a.put o.dst v') w') : wpList Try.prog ops Q (o :: rest) a w := by
  obtain ⟨i0, hi, hz0, hz1, hz2⟩ := info_parts Try.info5
  refine wpList_append_own w hgd s x 114 ho B 5 i0 (.int .u8 0) 1 1 Try.underlying114 hi hz0 hz1 hz2 rfl (by decide) v n xs hs hown ⟨g, 0, none⟩ 1 1 [c] hx rfl ?_ ?_ ?_ ?_ hB ?_
  · intro j u hj
    match j, hj with
    | 0, hj => simp at hj; subst hj; simpa [Addr.add] using hc
  · intro u hu; simp at hu; subst hu; exact h1
  · unfold maxLen; omega
  · omega
  · intro v' w' h1 h2 _
    exact h v' w' h1 ((Below.refl B w).grown h2 hB (fun k e => (hown.lt k e).1))
theorem bytesV_snoc (l : List UInt8) (c : UInt8) : bytesV l ++ [.int .u8 (c.toNat : Int)] = bytesV (l ++ [c]) := by simp [bytesV]

theorem conv_own {w : World} {B n g cap : Nat} {l : List UInt8} (h : w.ownsRow B 5 1 (.slice (some ⟨g, 0, none⟩) n cap) n (bytesV l)) :
    (convert 114 9 (.slice (some ⟨g, 0, none⟩) n cap)).run Try.prog w = .ok (.string ⟨l.toArray⟩) w := by
  have hn : n = l.length := by have := h.1; simp [bytesV] at this; omega
  subst hn
  refine run_convert_bytes_back w 114 9 5 ⟨g, 0, none⟩ cap l Try.underlying114 Try.underlying5 Try.underlying9 ?_
  intro j hj
  have hx := h.cells (g := g) rfl j (.int .u8 (l[j].toNat : Int)) (by simp [bytesV, List.getElem?_eq_getElem hj])
  exact hx
theorem own_cast {w : World} {B n m : Nat} {v : Value} {xs ys : List Value} (h : w.ownsRow B 5 1 v n xs) (hn : n = m) (hx : xs = ys) : w.ownsRow B 5 1 v m ys := by subst hn; subst hx; exact h

end Go.Proofs.Ytjekpclbedbaoaa
namespace Go.Proofs.Ytjekpclbedbaoaa
open Go.RowKit Go.Joins

theorem tx_no1 (acc r : List UInt8) (k : Nat) {c : UInt8} (h : nSl c = false) : txtF acc true k (c :: r) = none := by simp [txtF, h]
theorem tx_no2 (acc r : List UInt8) (k : Nat) (sl : Bool) (c : UInt8) (h : 64 < acc.length) : txtF acc sl k (c :: r) = none := by simp [txtF, h]
theorem tx_end (acc r : List UInt8) (k : Nat) {c : UInt8} (h : ¬ 64 < acc.length) (hc : c.toNat = 34) : txtF acc false k (c :: r) = some (acc, k + 2) := by
  obtain rfl : c = 34 := UInt8.toNat_inj.1 hc
  simp [txtF, h]
theorem tx_sl (acc r : List UInt8) (k : Nat) {c : UInt8} (h : ¬ 64 < acc.length) (hc : c.toNat = 92) : txtF acc false k (c :: r) = txtF acc true (k + 1) r := by
  obtain rfl : c = 92 := UInt8.toNat_inj.1 hc
  simp [txtF, h]
theorem tx_app0 (acc r : List UInt8) (k : Nat) {c : UInt8} (h : ¬ 64 < acc.length) (h1 : ¬ c.toNat = 34) (h2 : ¬ c.toNat = 92) : txtF acc false k (c :: r) = txtF (acc ++ [c]) false (k + 1) r := by
  have h3 : ¬ c = 34 := fun e => h1 (by rw [e]; rfl)
  have h4 : ¬ c = 92 := fun e => h2 (by rw [e]; rfl)
  simp [txtF, h, h3, h4]
theorem tx_app1 (acc r : List UInt8) (k : Nat) {c : UInt8} (h : ¬ 64 < acc.length) (h1 : nSl c = true) : txtF acc true k (c :: r) = txtF (acc ++ [c]) false (k + 1) r := by
  simp [txtF, h, h1]
theorem tx_nil (acc : List UInt8) (k : Nat) (sl : Bool) : txtF acc sl k [] = none := rfl
theorem drop_at {l : List UInt8} {k : Nat} (h : k < l.length) : l.drop k = l[k] :: l.drop (k + 1) := by simp
theorem textS_no {l : List UInt8} (h : txtF [] false 0 l.tail = none) : textS l = none := by unfold textS; rw [h]
theorem textS_yes (l b : List UInt8) (n : Nat) (h : txtF [] false 0 l.tail = some (b, n)) : textS l = some (⟨3, b, 0, 0⟩, n) := by unfold textS; rw [h]
theorem conv_own' {w : World} {B n : Nat} {v : Value} {l : List UInt8} (h : w.ownsRow B 5 1 v n (bytesV l)) (hn : n = l.length) : (convert 114 9 v).run Try.prog w = .ok (.string (St l)) w := by
  rcases ownsRow_forms h with ⟨rfl, h0⟩ | ⟨g, cap, rfl⟩
  · obtain rfl : l = [] := List.eq_nil_of_length_eq_zero (by omega)
    have u41 := Try.underlying114
    have u9 := Try.underlying9
    have u5 := Try.underlying5
    simp [convert, run_underlying u41, run_underlying u9, run_underlying u5, Conv.bytesToString]; rfl
  · exact conv_own h
/-- The text's bytes so far. -/
def Tb (w wr : World) (v : Value) (acc : List UInt8) : Prop := wr.ownsRow (w.heap.size + 1) 5 1 v acc.length (bytesV acc) ∧ Bx wr w.heap.size (.int .i64 0) (.string ⟨#[]⟩) (.int .i64 0) (.int .i64 0) ∧ Below w.heap.size w wr ∧ w.heap.size + 1 ≤ wr.heap.size
theorem Tb.app {w wr w1 : World} {v v1 : Value} {acc : List UInt8} {c : UInt8} (h : Tb w wr v acc) (ho : w1.ownsRow (w.heap.size + 1) 5 1 v1 (acc.length + 1) (bytesV acc ++ [.int .u8 (c.toNat : Int)])) (hb : Below (w.heap.size + 1) (wr.alloc (.cells #[.int .u8 (c.toNat : Int)] 5)) w1) : Tb w w1 v1 (acc ++ [c]) := by
  obtain ⟨h1, h2, h3, h4⟩ := h
  refine ⟨own_cast ho (by simp) (by simp [bytesV]), ?_, (h3.alloc (by omega) _).trans (hb.mono (by omega)), by have := hb.size; simp at this; omega⟩
  have hlt := lt_of_block h2
  show w1.heap[w.heap.size]? = _
  rw [hb.block _ (by omega), Below.heap_alloc _ _ _ hlt]
  exact h2
end Go.Proofs.Ytjekpclbedbaoaa
namespace Go.Proofs.Ytjekpclbedbaoaa
open Go.RowKit Go.Joins

theorem ansV_form (x : Option (Tk × Nat)) : ∃ (k : Int) (s : List UInt8) (n a m : Int), ansV x = .tuple #[TV k s n a, .int .i64 m] := by
  cases x with
  | none => exact ⟨_, _, _, _, _, rfl⟩
  | some y => obtain ⟨t, n⟩ := y; exact ⟨_, _, _, _, _, rfl⟩
theorem firstS_w {l : List UInt8} (h : 0 < l.length) (hc : isLe l[0] = true) : firstS l = wordS l := by
  cases l with
  | nil => simp at h
  | cons c r => have hc : isLe c = true := hc; simp [firstS, hc]
theorem firstS_n {l : List UInt8} (h : 0 < l.length) (hc : isLe l[0] = false) (h2 : l[0].toNat = 45 ∨ isDg l[0] = true) : firstS l = numS l := by
  cases l with
  | nil => simp at h
  | cons c r =>
    have hc : isLe c = false := hc
    have h2 : c.toNat = 45 ∨ isDg c = true := h2
    rcases h2 with h2 | h2
    · obtain rfl : c = 45 := UInt8.toNat_inj.1 h2
      simp [firstS, hc]
    · simp [firstS, hc, h2]
theorem firstS_t {l : List UInt8} (h : 0 < l.length) (hc : l[0].toNat = 34) : firstS l = textS l := by
  cases l with
  | nil => simp at h
  | cons c r =>
    obtain rfl : c = 34 := UInt8.toNat_inj.1 hc
    simp [firstS, isLe, isDg]
theorem firstS_s {l : List UInt8} (h : 0 < l.length) (hc : isLe l[0] = false) (h2 : ¬ l[0].toNat = 45) (h3 : isDg l[0] = false) (h4 : ¬ l[0].toNat = 34) : firstS l = signS l := by
  cases l with
  | nil => simp at h
  | cons c r =>
    have hc : isLe c = false := hc
    have h3 : isDg c = false := h3
    have h2 : ¬ c = 45 := fun e => h2 (by show c.toNat = 45; rw [e]; rfl)
    have h4 : ¬ c = 34 := fun e => h4 (by show c.toNat = 34; rw [e]; rfl)
    simp [firstS, hc, h3, h2, h4]
end Go.Proofs.Ytjekpclbedbaoaa
