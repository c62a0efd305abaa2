/-
  The tokens of a text as plain functions of its bytes.
  Texts as rows of bytes; what the small functions answer of a byte.
  What span returns.
  What word returns.
  What strings.HasPrefix and strings.TrimPrefix return.
  What sign returns, where the table of signs stands as the program lays it.
  A box of a token in a world that has gone on.
-/
import Derived.Test.YtmpjmimhoikknaaGreatDoorProg
import Derived.KernelRfl
import Derived.WalkKit
import Derived.WalkSpells
import Derived.WalkLawsBesides
import Derived.Deep.RegionWith
import Derived.Deep.Light
import Derived.BigQuiet
import Derived.ChangeKeysEq
import Derived.Handy
namespace Go.Proofs.YtmpjmimhoikknaaGreatDoor

def isBl (c : UInt8) : Bool := decide (c.toNat = 32 ∨ c.toNat = 9 ∨ c.toNat = 10 ∨ c.toNat = 13)
def isLe (c : UInt8) : Bool := decide (97 ≤ c.toNat ∧ c.toNat ≤ 122)
def isDg (c : UInt8) : Bool := decide (48 ≤ c.toNat ∧ c.toNat ≤ 57)
def isWd (c : UInt8) : Bool := decide ((97 ≤ c.toNat ∧ c.toNat ≤ 122) ∨ (48 ≤ c.toNat ∧ c.toNat ≤ 57) ∨ c.toNat = 95)
def nSl (c : UInt8) : Bool := decide (c.toNat = 34 ∨ c.toNat = 92)

def spanN (p : UInt8 → Bool) : List UInt8 → Nat
  | [] => 0
  | c :: r => if p c then spanN p r + 1 else 0

theorem spanN_le (p : UInt8 → Bool) : ∀ l, spanN p l ≤ l.length
  | [] => Nat.le_refl _
  | c :: r => by
    unfold spanN
    split
    · have := spanN_le p r; simp; omega
    · omega
theorem spanN_all (p : UInt8 → Bool) : ∀ (l : List UInt8) (i : Nat) (h : i < l.length), i < spanN p l → p l[i] = true
  | [], i, h, _ => by simp at h
  | c :: r, i, h, hi => by
    unfold spanN at hi
    split at hi
    · rename_i hc
      cases i with
      | zero => simpa using hc
      | succ i => simpa using spanN_all p r i (by simpa using h) (by omega)
    · omega
theorem spanN_stop (p : UInt8 → Bool) : ∀ (l : List UInt8) (h : spanN p l < l.length), p (l[spanN p l]) = false
  | [], h => by simp at h
  | c :: r, h => by
    by_cases hc : p c = true
    · have e : spanN p (c :: r) = spanN p r + 1 := by simp [spanN, hc]
      have h' : spanN p r < r.length := by rw [e] at h; simpa using h
      have := spanN_stop p r h'
      simp only [e, List.getElem_cons_succ]; exact this
    · have e : spanN p (c :: r) = 0 := by simp [spanN, hc]
      simp only [e, List.getElem_cons_zero]; simpa using hc
/-- The first place where it is not so, or the end. -/
theorem spanN_is (p : UInt8 → Bool) (l : List UInt8) (k : Nat) (hk : k ≤ l.length) (ha : ∀ i (h : i < l.length), i < k → p l[i] = true)
    (hs : k = l.length ∨ ∃ h : k < l.length, p l[k] = false) : spanN p l = k := by
  have h1 := spanN_le p l
  rcases Nat.lt_trichotomy (spanN p l) k with h | h | h
  · have := spanN_stop p l (by omega)
    rw [ha _ (by omega) h] at this; cases this
  · exact h
  · rcases hs with hs | ⟨h2, hs⟩
    · omega
    · rw [spanN_all p l k h2 h] at hs; cases hs
theorem spanN_app (p : UInt8 → Bool) (b : UInt8) (hb : p b = false) (r : List UInt8) : ∀ l, spanN p (l ++ b :: r) = spanN p l
  | [] => by simp [spanN, hb]
  | c :: l => by
    simp only [List.cons_append, spanN]
    rw [spanN_app p b hb r l]
theorem spanN_take (p : UInt8 → Bool) (l : List UInt8) : ∀ x ∈ l.take (spanN p l), p x = true := by
  intro x hx
  obtain ⟨i, hi, rfl⟩ := List.mem_iff_getElem.1 hx
  rw [List.getElem_take]
  have := hi; simp at this
  exact spanN_all p l i (by omega) (by omega)
theorem spanN_allp (p : UInt8 → Bool) : ∀ l : List UInt8, (∀ x ∈ l, p x = true) → spanN p l = l.length
  | [], _ => rfl
  | c :: r, h => by
    simp [spanN, h c (by simp), spanN_allp p r (fun x hx => h x (by simp [hx]))]
theorem spanN_mono (p q : UInt8 → Bool) (h : ∀ c, p c = true → q c = true) : ∀ l, spanN p l ≤ spanN q l
  | [] => Nat.le_refl _
  | c :: r => by
    unfold spanN
    by_cases hp : p c = true
    · rw [if_pos hp, if_pos (h c hp)]; have := spanN_mono p q h r; omega
    · rw [if_neg hp]; omega

/-! Numbers -/
def dstep (a : Nat) (c : UInt8) : Nat := a * 10 + (c.toNat - 48)
def dvalF (acc : Nat) (l : List UInt8) : Nat := l.foldl dstep acc
def dval (l : List UInt8) : Nat := dvalF 0 l
theorem dvalF_nil (acc : Nat) : dvalF acc [] = acc := rfl
theorem dvalF_cons (acc : Nat) (c : UInt8) (l : List UInt8) : dvalF acc (c :: l) = dvalF (dstep acc c) l := by simp only [dvalF, List.foldl_cons]
theorem dvalF_ge (l : List UInt8) : ∀ acc : Nat, acc * (10 ^ l.length) ≤ dvalF acc l := by
  induction l with
  | nil => intro acc; rw [dvalF_nil]; exact Nat.le_of_eq (Nat.mul_one _)
  | cons c r ih =>
    intro acc
    have := ih (dstep acc c)
    rw [dvalF_cons, List.length_cons, Nat.pow_succ]
    refine Nat.le_trans ?_ this
    rw [Nat.mul_comm (10 ^ r.length) 10, ← Nat.mul_assoc]
    exact Nat.mul_le_mul_right _ (Nat.le_add_right _ _)
theorem dvalF_acc (l : List UInt8) (acc : Nat) : acc ≤ dvalF acc l := by
  refine Nat.le_trans ?_ (dvalF_ge l acc)
  exact Nat.le_mul_of_pos_right _ (Nat.pow_pos (by decide))
theorem dvalF_append (l m : List UInt8) (acc : Nat) : dvalF acc (l ++ m) = dvalF (dvalF acc l) m := by
  simp [dvalF, List.foldl_append]

/-- What a number's digits say with or without a sign; none beyond what a number is. -/
def numV (ng : Bool) (v : Nat) : Option Int :=
  if ng then (if v ≤ 9223372036854775808 then some (-(v : Int)) else none)
  else (if v < 9223372036854775808 then some (v : Int) else none)

/-- A token without its place: its kind, its text, its number. -/
structure Tk where
  kind : Nat
  s : List UInt8
  n : Int
  at_ : Nat
instance : DecidableEq Tk := fun a b => decidable_of_iff (a.kind = b.kind ∧ a.s = b.s ∧ a.n = b.n ∧ a.at_ = b.at_) (by cases a; cases b; simp)

def wordS (xs : List UInt8) : Option (Tk × Nat) :=
  if 24 < spanN isWd xs then none else some (⟨1, xs.take (spanN isWd xs), 0, 0⟩, spanN isWd xs)
def neg1 (xs : List UInt8) : Bool := xs.head? == some 45
def digitsOf (xs : List UInt8) : List UInt8 := if neg1 xs then xs.tail else xs
def sgn1 (xs : List UInt8) : Nat := if neg1 xs then 1 else 0
def numS (xs : List UInt8) : Option (Tk × Nat) :=
  if spanN isDg (digitsOf xs) = 0 ∨ spanN isDg (digitsOf xs) ≠ spanN isWd (digitsOf xs) then none
  else if (digitsOf xs).head? = some 48 ∧ 1 < spanN isDg (digitsOf xs) + sgn1 xs then none
  else (numV (neg1 xs) (dval ((digitsOf xs).take (spanN isDg (digitsOf xs))))).map (fun v => (⟨2, [], v, 0⟩, spanN isDg (digitsOf xs) + sgn1 xs))
def txtF (acc : List UInt8) (sl : Bool) (k : Nat) : List UInt8 → Option (List UInt8 × Nat)
  | [] => none
  | c :: r =>
    if (sl && !nSl c) || decide (64 < acc.length) then none
    else if !sl && c == 34 then some (acc, k + 2)
    else if !sl && c == 92 then txtF acc true (k + 1) r
    else txtF (acc ++ [c]) false (k + 1) r
def textS (xs : List UInt8) : Option (Tk × Nat) :=
  match txtF [] false 0 xs.tail with
  | some (b, n) => some (⟨3, b, 0, 0⟩, n)
  | none => none
def signsL : List (List UInt8) := [[33, 61], [60, 61], [62, 61], [124], [44], [40], [41], [58], [61], [60], [62]]
def signS (xs : List UInt8) : Option (Tk × Nat) :=
  match signsL.find? (fun x => x.isPrefixOf xs) with
  | some x => some (⟨4, x, 0, 0⟩, x.length)
  | none => none
def firstS (xs : List UInt8) : Option (Tk × Nat) :=
  match xs with
  | [] => none
  | c :: r =>
    if isLe c then wordS (c :: r)
    else if c == 45 || isDg c then numS (c :: r)
    else if c == 34 then textS (c :: r)
    else signS (c :: r)

theorem txtF_pos : ∀ (l acc : List UInt8) (sl : Bool) (k : Nat) (b : List UInt8) (n : Nat), txtF acc sl k l = some (b, n) → k + 2 ≤ n ∧ n ≤ k + 1 + l.length
  | [], acc, sl, k, b, n, h => by simp [txtF] at h
  | c :: r, acc, sl, k, b, n, h => by
    unfold txtF at h
    split at h
    · cases h
    · split at h
      · cases h; simp; omega
      · split at h
        · have := txtF_pos r _ _ _ _ _ h; simp; omega
        · have := txtF_pos r _ _ _ _ _ h; simp; omega
theorem isLe_isWd {c : UInt8} (h : isLe c = true) : isWd c = true := by simp [isWd, isLe] at h ⊢; omega
theorem isDg_isWd {c : UInt8} (h : isDg c = true) : isWd c = true := by simp [isWd, isDg] at h ⊢; omega
theorem find_sign {xs x : List UInt8} (h : signsL.find? (fun x => x.isPrefixOf xs) = some x) : x ∈ signsL ∧ x.isPrefixOf xs = true := by
  have h1 := List.find?_some h
  have h2 := List.mem_of_find?_eq_some h
  exact ⟨h2, h1⟩
theorem signs_len {x : List UInt8} (h : x ∈ signsL) : 1 ≤ x.length ∧ x.length ≤ 2 := by
  simp only [signsL, List.mem_cons, List.not_mem_nil, or_false] at h
  rcases h with h | h | h | h | h | h | h | h | h | h | h <;> subst h <;> decide
theorem digitsOf_len (xs : List UInt8) : (digitsOf xs).length + sgn1 xs = xs.length := by
  unfold digitsOf sgn1
  by_cases h : neg1 xs = true
  · rw [if_pos h, if_pos h]
    cases xs with
    | nil => simp [neg1] at h
    | cons c r => simp
  · rw [if_neg h, if_neg h]; rfl
/-- A token takes a byte at least, and no more than there are. -/
theorem firstS_pos {xs : List UInt8} {t : Tk} {n : Nat} (h : firstS xs = some (t, n)) : 1 ≤ n ∧ n ≤ xs.length := by
  unfold firstS at h
  split at h
  · cases h
  · rename_i c r
    split at h
    · rename_i hc
      unfold wordS at h
      split at h
      · cases h
      · cases h
        refine ⟨?_, spanN_le _ _⟩
        simp [spanN, isLe_isWd hc]
    · split at h
      · unfold numS at h
        split at h
        · cases h
        · rename_i h0
          split at h
          · cases h
          · obtain ⟨v, -, h⟩ := Option.map_eq_some_iff.1 h
            cases h
            have := digitsOf_len (c :: r)
            have := spanN_le isDg (digitsOf (c :: r))
            omega
      · split at h
        · unfold textS at h
          split at h
          · rename_i b n' e
            cases h
            have := txtF_pos _ _ _ _ _ _ e
            simp at this ⊢
            omega
          · cases h
        · unfold signS at h
          split at h
          · rename_i x e
            cases h
            obtain ⟨h1, h2⟩ := find_sign e
            have h3 := signs_len h1
            have h4 := (List.isPrefixOf_iff_prefix.1 h2).length_le
            omega
          · cases h

/-- The tokens of what stands behind, with their places; or the place of what begins none. -/
def lexR : Nat → Nat → List UInt8 → Nat ⊕ List Tk
  | 0, _, _ => .inr []
  | f + 1, at_, xs =>
    match xs with
    | [] => .inr []
    | c :: r =>
      if isBl c then lexR f (at_ + 1) r
      else match firstS (c :: r) with
        | none => .inl at_
        | some (t, n) => match lexR f (at_ + n) ((c :: r).drop n) with
          | .inl e => .inl e
          | .inr l => .inr ({ t with at_ := at_ } :: l)
theorem lexR_fuel : ∀ (f g at_ : Nat) (xs : List UInt8), xs.length ≤ f → xs.length ≤ g → lexR f at_ xs = lexR g at_ xs
  | 0, g, at_, xs, hf, hg => by
    obtain rfl : xs = [] := List.eq_nil_of_length_eq_zero (by omega)
    cases g <;> rfl
  | f + 1, 0, at_, xs, hf, hg => by
    obtain rfl : xs = [] := List.eq_nil_of_length_eq_zero (by omega)
    rfl
  | f + 1, g + 1, at_, [], hf, hg => rfl
  | f + 1, g + 1, at_, c :: r, hf, hg => by
    simp only [lexR]
    split
    · exact lexR_fuel f g _ r (by simpa using hf) (by simpa using hg)
    · cases h : firstS (c :: r) with
      | none => rfl
      | some x =>
        obtain ⟨t, n⟩ := x
        have hp := firstS_pos h
        simp only
        rw [lexR_fuel f g (at_ + n) ((c :: r).drop n) (by simp at hf ⊢; omega) (by simp at hg ⊢; omega)]
def lexA (at_ : Nat) (xs : List UInt8) : Nat ⊕ List Tk := lexR xs.length at_ xs
theorem lexA_nil (a : Nat) : lexA a [] = .inr [] := rfl
theorem lexA_bl (a : Nat) {c : UInt8} (r : List UInt8) (h : isBl c = true) : lexA a (c :: r) = lexA (a + 1) r := by
  simp [lexA, lexR, h]
theorem lexA_no (a : Nat) {c : UInt8} {r : List UInt8} (h : isBl c = false) (hf : firstS (c :: r) = none) : lexA a (c :: r) = .inl a := by
  simp [lexA, lexR, h, hf]
theorem lexA_some (a : Nat) {c : UInt8} {r : List UInt8} {t : Tk} {n : Nat} (h : isBl c = false) (hf : firstS (c :: r) = some (t, n)) :
    lexA a (c :: r) = match lexA (a + n) ((c :: r).drop n) with
      | .inl e => .inl e
      | .inr l => .inr ({ t with at_ := a } :: l) := by
  have hp := firstS_pos hf
  have e : lexR r.length (a + n) ((c :: r).drop n) = lexA (a + n) ((c :: r).drop n) := lexR_fuel _ _ _ _ (by simp; omega) (by simp)
  simp only [lexA] at e ⊢
  simp only [List.length_cons, lexR, h, hf]
  rw [e]; rfl
theorem lexA_span (a : Nat) : ∀ (xs : List UInt8), lexA a xs = lexA (a + spanN isBl xs) (xs.drop (spanN isBl xs))
  | [] => rfl
  | c :: r => by
    by_cases h : isBl c = true
    · rw [lexA_bl a r h, lexA_span (a + 1) r]
      simp [spanN, h]
      congr 1; omega
    · simp [spanN, h]

end Go.Proofs.YtmpjmimhoikknaaGreatDoor
namespace Go.Proofs.YtmpjmimhoikknaaGreatDoor
open Go.RowKit

theorem hid {p : Prop} (h : p) : Hid p := h
def St (l : List UInt8) : ByteArray := ⟨l.toArray⟩
theorem St_size (l : List UInt8) : (St l).size = l.length := by simp [St, ByteArray.size]
theorem St_toList (l : List UInt8) : (St l).data.toList = l := by simp [St]
theorem St_get (l : List UInt8) (k : Nat) (h : k < (St l).size) : (St l)[k] = l[k]'(by rw [← St_size]; exact h) := by
  simp [St, ByteArray.getElem_eq_getElem_data]
theorem St_of (s : ByteArray) : St s.data.toList = s := by cases s; rfl
theorem idx (l : List UInt8) (k : Nat) (h : k < l.length) (w : World) : (Instr.index 9 (.string (St l)) (.int .i64 (k : Int))).run Tryz.prog w = .ok (.int .u8 (l[k].toNat : Int)) w := by
  have hs := St_size l
  rw [run_index_string w 9 (St l) .i64 (k : Int) Tryz.underlying9, dif_pos ⟨by omega, by omega⟩]
  congr 3
theorem St_extract (l : List UInt8) (a b : Nat) : (St l).extract a b = St ((l.take b).drop a) := by
  unfold St
  apply ByteArray.ext
  simp only [ByteArray.data_extract]
  apply Array.toList_inj.1
  simp [List.extract, List.drop_take]
theorem slF (l : List UInt8) (k : Nat) (h : k ≤ l.length) (w : World) : (Instr.slice 9 (.string (St l)) (some (.int .i64 (k : Int))) none none).run Tryz.prog w = .ok (.string (St (l.drop k))) w := by
  have hs := St_size l
  rw [run_slice_string_from_if w 9 (St l) .i64 (k : Int) Tryz.underlying9, if_pos (by omega)]
  congr 2
  rw [show ((k : Int)).toNat = k by omega, hs, St_extract l k l.length, List.take_length]
theorem slT (l : List UInt8) (k : Nat) (h : k ≤ l.length) (w : World) : (Instr.slice 9 (.string (St l)) none (some (.int .i64 (k : Int))) none).run Tryz.prog w = .ok (.string (St (l.take k))) w := by
  have hs := St_size l
  rw [run_slice_string_to_if w 9 (St l) .i64 (k : Int) Tryz.underlying9, if_pos (by omega)]
  congr 2
  rw [show ((k : Int)).toNat = k by omega, St_extract l 0 k, List.drop_zero]

theorem isBl_any (c : UInt8) (w : World) : Calls Tryz.prog 113 #[.int .u8 (c.toNat : Int)] w fun e w' => e = .returned (.bool (isBl c)) ∧ w' = w := by
  go_enter Tryz.func113, Tryz.ntmps113
  go_wp2
  all_goals (go_ret; refine ⟨?_, rfl⟩; refine congrArg Ending.returned (congrArg Value.bool (Bool.eq_iff_iff.2 ?_)); simp [isBl]; try omega)
theorem isLe_any (c : UInt8) (w : World) : Calls Tryz.prog 151 #[.int .u8 (c.toNat : Int)] w fun e w' => e = .returned (.bool (isLe c)) ∧ w' = w := by
  go_enter Tryz.func151, Tryz.ntmps151
  go_wp2
  all_goals (go_ret; refine ⟨?_, rfl⟩; refine congrArg Ending.returned (congrArg Value.bool (Bool.eq_iff_iff.2 ?_)); simp [isLe]; try omega)
theorem isDg_any (c : UInt8) (w : World) : Calls Tryz.prog 153 #[.int .u8 (c.toNat : Int)] w fun e w' => e = .returned (.bool (isDg c)) ∧ w' = w := by
  go_enter Tryz.func153, Tryz.ntmps153
  go_wp2
  all_goals (go_ret; refine ⟨?_, rfl⟩; refine congrArg Ending.returned (congrArg Value.bool (Bool.eq_iff_iff.2 ?_)); simp [isDg]; try omega)
theorem nSl_any (c : UInt8) (w : World) : Calls Tryz.prog 174 #[.int .u8 (c.toNat : Int)] w fun e w' => e = .returned (.bool (nSl c)) ∧ w' = w := by
  go_enter Tryz.func174, Tryz.ntmps174
  go_wp2
  all_goals (go_ret; refine ⟨?_, rfl⟩; refine congrArg Ending.returned (congrArg Value.bool (Bool.eq_iff_iff.2 ?_)); simp [nSl]; try omega)
theorem isWd_any (c : UInt8) (w : World) : Calls Tryz.prog 188 #[.int .u8 (c.toNat : Int)] w fun e w' => e = .returned (.bool (isWd c)) ∧ w' = w := by
  go_enter Tryz.func188, Tryz.ntmps188
  go_wp2
  all_goals (go_ret; refine ⟨?_, rfl⟩; refine congrArg Ending.returned (congrArg Value.bool (Bool.eq_iff_iff.2 ?_)); simp [isWd]; try omega)
end Go.Proofs.YtmpjmimhoikknaaGreatDoor
namespace Go.Proofs.YtmpjmimhoikknaaGreatDoor
open Go.RowKit

set_option maxHeartbeats 400000 in
theorem span17 (l : List UInt8) (hl : (l.length : Int) ≤ 9223372036854775806) (w : World) : Calls Tryz.prog 112 #[.string (St l), .func (.func 113) #[] #[]] w fun e w' => e = .returned (.int .i64 (spanN isBl l : Nat)) ∧ w' = w := by
  have hsz := St_size l
  go_enter Tryz.func112, Tryz.ntmps112
  go_wp2_with fail
  go_loopw [8] (fun i wr => ∃ k : Nat, (k : Int) ≤ l.length ∧ i = .int .i64 k ∧ Hid (∀ i (h : i < l.length), i < k → isBl l[i] = true) ∧ w = wr) (fun i _ => l.length - (intOf i).toNat)
  case atStart => exact ⟨0, by omega, rfl, fun i h hi => by omega, rfl⟩
  case round =>
    obtain ⟨k, hk, rfl, HA, hw⟩ := hrel
    subst hw
    by_cases hlt : k < l.length
    · have hi := idx l k hlt
      have hI : (k : Int) < l.length := by omega
      cases hc : isBl l[k] with
      | true =>
        go_wp2_with (go_at_call 113; refine (isBl_any _ _).mono ?_; rintro e w2 ⟨rfl, rfl⟩; rw [hc])
        go_roundw
        case rel =>
          refine ⟨k + 1, by omega, by go_num, ?_, (by first | rfl | trivial)⟩
          intro i h hik
          rcases Nat.lt_or_ge i k with h1 | h1
          · exact HA.out i h h1
          · obtain rfl : i = k := by omega
            exact hc
        case measure => simp [intOf]; omega
      | false =>
        go_wp2_with (go_at_call 113; refine (isBl_any _ _).mono ?_; rintro e w2 ⟨rfl, rfl⟩; rw [hc])
        go_ret
        exact ⟨by rw [spanN_is isBl l k (by omega) HA.out (.inr ⟨hlt, hc⟩)]; rfl, rfl⟩
    · go_wp2_with fail
      go_ret
      exact ⟨by rw [spanN_is isBl l k (by omega) HA.out (.inl (by omega)), show k = l.length by omega]; rfl, rfl⟩
set_option maxHeartbeats 400000 in
theorem span23 (l : List UInt8) (hl : (l.length : Int) ≤ 9223372036854775806) (w : World) : Calls Tryz.prog 112 #[.string (St l), .func (.func 153) #[] #[]] w fun e w' => e = .returned (.int .i64 (spanN isDg l : Nat)) ∧ w' = w := by
  have hsz := St_size l
  go_enter Tryz.func112, Tryz.ntmps112
  go_wp2_with fail
  go_loopw [8] (fun i wr => ∃ k : Nat, (k : Int) ≤ l.length ∧ i = .int .i64 k ∧ Hid (∀ i (h : i < l.length), i < k → isDg l[i] = true) ∧ w = wr) (fun i _ => l.length - (intOf i).toNat)
  case atStart => exact ⟨0, by omega, rfl, fun i h hi => by omega, rfl⟩
  case round =>
    obtain ⟨k, hk, rfl, HA, hw⟩ := hrel
    subst hw
    by_cases hlt : k < l.length
    · have hi := idx l k hlt
      have hI : (k : Int) < l.length := by omega
      cases hc : isDg l[k] with
      | true =>
        go_wp2_with (go_at_call 153; refine (isDg_any _ _).mono ?_; rintro e w2 ⟨rfl, rfl⟩; rw [hc])
        go_roundw
        case rel =>
          refine ⟨k + 1, by omega, by go_num, ?_, (by first | rfl | trivial)⟩
          intro i h hik
          rcases Nat.lt_or_ge i k with h1 | h1
          · exact HA.out i h h1
          · obtain rfl : i = k := by omega
            exact hc
        case measure => simp [intOf]; omega
      | false =>
        go_wp2_with (go_at_call 153; refine (isDg_any _ _).mono ?_; rintro e w2 ⟨rfl, rfl⟩; rw [hc])
        go_ret
        exact ⟨by rw [spanN_is isDg l k (by omega) HA.out (.inr ⟨hlt, hc⟩)]; rfl, rfl⟩
    · go_wp2_with fail
      go_ret
      exact ⟨by rw [spanN_is isDg l k (by omega) HA.out (.inl (by omega)), show k = l.length by omega]; rfl, rfl⟩
set_option maxHeartbeats 400000 in
theorem span33 (l : List UInt8) (hl : (l.length : Int) ≤ 9223372036854775806) (w : World) : Calls Tryz.prog 112 #[.string (St l), .func (.func 188) #[] #[]] w fun e w' => e = .returned (.int .i64 (spanN isWd l : Nat)) ∧ w' = w := by
  have hsz := St_size l
  go_enter Tryz.func112, Tryz.ntmps112
  go_wp2_with fail
  go_loopw [8] (fun i wr => ∃ k : Nat, (k : Int) ≤ l.length ∧ i = .int .i64 k ∧ Hid (∀ i (h : i < l.length), i < k → isWd l[i] = true) ∧ w = wr) (fun i _ => l.length - (intOf i).toNat)
  case atStart => exact ⟨0, by omega, rfl, fun i h hi => by omega, rfl⟩
  case round =>
    obtain ⟨k, hk, rfl, HA, hw⟩ := hrel
    subst hw
    by_cases hlt : k < l.length
    · have hi := idx l k hlt
      have hI : (k : Int) < l.length := by omega
      cases hc : isWd l[k] with
      | true =>
        go_wp2_with (go_at_call 188; refine (isWd_any _ _).mono ?_; rintro e w2 ⟨rfl, rfl⟩; rw [hc])
        go_roundw
        case rel =>
          refine ⟨k + 1, by omega, by go_num, ?_, (by first | rfl | trivial)⟩
          intro i h hik
          rcases Nat.lt_or_ge i k with h1 | h1
          · exact HA.out i h h1
          · obtain rfl : i = k := by omega
            exact hc
        case measure => simp [intOf]; omega
      | false =>
        go_wp2_with (go_at_call 188; refine (isWd_any _ _).mono ?_; rintro e w2 ⟨rfl, rfl⟩; rw [hc])
        go_ret
        exact ⟨by rw [spanN_is isWd l k (by omega) HA.out (.inr ⟨hlt, hc⟩)]; rfl, rfl⟩
    · go_wp2_with fail
      go_ret
      exact ⟨by rw [spanN_is isWd l k (by omega) HA.out (.inl (by omega)), show k = l.length by omega]; rfl, rfl⟩
end Go.Proofs.YtmpjmimhoikknaaGreatDoor
namespace Go.Proofs.YtmpjmimhoikknaaGreatDoor
open Go.RowKit

abbrev TV (k : Int) (s : List UInt8) (n a : Int) : Value := .agg #[.int .i64 k, .string (St s), .int .i64 n, .int .i64 a]
def ansV : Option (Tk × Nat) → Value
  | none => .tuple #[TV 0 [] 0 0, .int .i64 0]
  | some (t, n) => .tuple #[TV t.kind t.s t.n t.at_, .int .i64 n]
theorem wordS_no {l : List UInt8} (h : 24 < spanN isWd l) : wordS l = none := by unfold wordS; rw [if_pos h]
theorem wordS_yes {l : List UInt8} (h : ¬ 24 < spanN isWd l) : wordS l = some (⟨1, l.take (spanN isWd l), 0, 0⟩, spanN isWd l) := by unfold wordS; rw [if_neg h]
set_option maxHeartbeats 400000 in
theorem word_any (l : List UInt8) (hl : (l.length : Int) ≤ 9223372036854775806) (w : World) : Calls Tryz.prog 152 #[.string (St l)] w fun e w' => e = .returned (ansV (wordS l)) ∧ Below w.heap.size w w' := by
  have hsz := St_size l
  have hle := spanN_le isWd l
  have HN := hid (wordS_no (l := l))
  have HY := hid (wordS_yes (l := l))
  have HS := hid (span33 l hl)
  have hs := slT l (spanN isWd l) hle
  generalize spanN isWd l = n at *
  have hnI : (n : Int) ≤ l.length := by omega
  clear hle
  by_cases h : 24 < n
  · have hI : 24 < (n : Int) := by omega
    have HA := hid (HN.out h)
    clear h HN HY
    go_enter Tryz.func152, Tryz.ntmps152
    go_wp2_with (go_at_call 112; refine (HS.out _).mono ?_; rintro e w2 ⟨rfl, rfl⟩)
    refine bodyPost_ret (v := .tuple #[TV 0 [] 0 0, .int .i64 0]) (by simp [results, Tryz.results152, go_sem]; rfl) rfl ⟨by rw [HA.out]; rfl, by go_grown⟩
  · have hI : ¬ 24 < (n : Int) := by omega
    have HA := hid (HY.out h)
    clear h HN HY
    go_enter Tryz.func152, Tryz.ntmps152
    go_wp2_with (go_at_call 112; refine (HS.out _).mono ?_; rintro e w2 ⟨rfl, rfl⟩)
    refine bodyPost_ret (v := .tuple #[TV 1 (l.take n) 0 0, .int .i64 n]) (by simp [results, Tryz.results152, go_sem]) rfl ⟨by rw [HA.out]; rfl, by go_grown⟩
end Go.Proofs.YtmpjmimhoikknaaGreatDoor
namespace Go.Proofs.YtmpjmimhoikknaaGreatDoor
open Go.RowKit
theorem bytes_toList_inj {s t : ByteArray} (h : s.toList = t.toList) : s = t := by
  rw [ByteArray.toList_eq, ByteArray.toList_eq] at h
  obtain ⟨⟨x⟩⟩ := s
  obtain ⟨⟨y⟩⟩ := t
  simp at h
  subst h; rfl
theorem St_inj {l p : List UInt8} (h : St l = St p) : l = p := by
  have := congrArg (fun s : ByteArray => s.data.toList) h
  simpa [St] using this
theorem St_eq (l : List UInt8) (p : List UInt8) : ((St l).toList == (St p).toList) = (l == p) := by
  rcases Decidable.em (l = p) with h | h
  · subst h; simp
  · rw [beq_eq_false_iff_ne.2 h]
    apply beq_eq_false_iff_ne.2
    intro e; exact h (St_inj (bytes_toList_inj e))
theorem pre_is (l p : List UInt8) : p.isPrefixOf l = (decide (p.length ≤ l.length) && (l.take p.length == p)) := by
  apply Bool.eq_iff_iff.2
  rw [List.isPrefixOf_iff_prefix, List.prefix_iff_eq_take]
  simp
  constructor
  · intro h
    refine ⟨?_, h.symm⟩
    have := congrArg List.length h; simp at this; omega
  · intro h; exact h.2.symm
set_option maxHeartbeats 400000 in
theorem pre40 (l p : List UInt8) (w : World) : Calls Tryz.prog 218 #[.string (St l), .string (St p)] w fun e w' => e = .returned (.bool (p.isPrefixOf l)) ∧ w' = w := by
  have hsz := St_size l
  have hsp := St_size p
  rw [pre_is]
  by_cases h : p.length ≤ l.length
  · have hI : (p.length : Int) ≤ l.length := by omega
    have hs := slT l p.length h
    have he := St_eq (l.take p.length) p
    go_enter Tryz.func218, Tryz.ntmps218
    go_wp2
    go_ret
    exact ⟨by simp [h], rfl⟩
  · have hI : ¬ (p.length : Int) ≤ l.length := by omega
    go_enter Tryz.func218, Tryz.ntmps218
    go_wp2
    go_ret
    exact ⟨by simp, rfl⟩
theorem pre_any (l p : List UInt8) (w : World) : Calls Tryz.prog 191 #[.string (St l), .string (St p)] w fun e w' => e = .returned (.bool (p.isPrefixOf l)) ∧ w' = w := by
  go_enter Tryz.func191, Tryz.ntmps191
  go_wp2_with (go_at_call 218; refine (pre40 _ _ _).mono ?_; rintro e w2 ⟨rfl, rfl⟩)
  go_ret
  exact ⟨rfl, rfl⟩
def trimL (p l : List UInt8) : List UInt8 := if p.isPrefixOf l then l.drop p.length else l
theorem trim37 (l p : List UInt8) (w : World) : Calls Tryz.prog 215 #[.string (St l), .string (St p)] w fun e w' => e = .returned (.string (St (trimL p l))) ∧ w' = w := by
  have hsz := St_size l
  have hsp := St_size p
  cases h : p.isPrefixOf l with
  | true =>
    have h2 := (List.isPrefixOf_iff_prefix.1 h).length_le
    rw [show trimL p l = l.drop p.length by unfold trimL; rw [if_pos h]]
    have hs := slF l p.length h2
    go_enter Tryz.func215, Tryz.ntmps215
    go_wp2_with (go_at_call 218; refine (pre40 _ _ _).mono ?_; rintro e w2 ⟨rfl, rfl⟩; rw [h])
    go_ret
    exact ⟨rfl, rfl⟩
  | false =>
    rw [show trimL p l = l by unfold trimL; rw [if_neg (by simp [h])]]
    go_enter Tryz.func215, Tryz.ntmps215
    go_wp2_with (go_at_call 218; refine (pre40 _ _ _).mono ?_; rintro e w2 ⟨rfl, rfl⟩; rw [h])
    go_ret
    exact ⟨rfl, rfl⟩
theorem trim_any (l p : List UInt8) (w : World) : Calls Tryz.prog 189 #[.string (St l), .string (St p)] w fun e w' => e = .returned (.string (St (trimL p l))) ∧ w' = w := by
  go_enter Tryz.func189, Tryz.ntmps189
  go_wp2_with (go_at_call 215; refine (trim37 _ _ _).mono ?_; rintro e w2 ⟨rfl, rfl⟩)
  go_ret
  exact ⟨rfl, rfl⟩
end Go.Proofs.YtmpjmimhoikknaaGreatDoor
namespace Go.Proofs.YtmpjmimhoikknaaGreatDoor
open Go.RowKit
/-- The table of signs. -/
def Sg (w : World) : Prop := 2 < w.heap.size ∧ ∀ i, i < 11 → w.cell? ⟨2, i, none⟩ = some (.string (St (signsL.getD i [])))
abbrev sgV : Value := .agg #[.string (St [33, 61]), .string (St [60, 61]), .string (St [62, 61]), .string (St [124]), .string (St [44]), .string (St [40]), .string (St [41]), .string (St [58]), .string (St [61]), .string (St [60]), .string (St [62])]
set_option maxRecDepth 100000 in
theorem sg_idx (k : Nat) (h : k < 11) (w : World) : (Instr.index 199 sgV (.int .i64 (k : Int))).run Tryz.prog w = .ok (.string (St (signsL.getD k []))) w := by
  have u51 := Tryz.underlying199
  match k, h with
  | 0, _ => go_simp; rfl
  | 1, _ => go_simp; rfl
  | 2, _ => go_simp; rfl
  | 3, _ => go_simp; rfl
  | 4, _ => go_simp; rfl
  | 5, _ => go_simp; rfl
  | 6, _ => go_simp; rfl
  | 7, _ => go_simp; rfl
  | 8, _ => go_simp; rfl
  | 9, _ => go_simp; rfl
  | 10, _ => go_simp; rfl
theorem sign_no {l : List UInt8} (h : ∀ i, i < 11 → (signsL.getD i []).isPrefixOf l = false) : signS l = none := by
  unfold signS
  rw [List.find?_eq_none.2 ?_]
  intro x hx
  obtain ⟨i, hi, rfl⟩ := List.mem_iff_getElem.1 hx
  have hi' : i < 11 := hi
  have := h i hi'
  rw [List.getD_eq_getElem?_getD, List.getElem?_eq_getElem hi] at this
  exact Bool.not_eq_true _ ▸ this
theorem find_at {α : Type} (p : α → Bool) : ∀ (L : List α) (k : Nat) (h : k < L.length), (∀ i (h : i < L.length), i < k → p L[i] = false) → p L[k] = true → L.find? p = some L[k]
  | [], k, h, _, _ => by simp at h
  | a :: L, 0, h, h1, h2 => by
    have h2' : p a = true := h2
    simp [List.find?, h2']
  | a :: L, k + 1, h, h1, h2 => by
    have h0 : p a = false := h1 0 (by simp) (by omega)
    rw [List.find?_cons, h0]
    simpa using find_at p L k (by simpa using h) (fun i hi hk => h1 (i + 1) (by simp; omega) (by omega)) h2
theorem sign_yes {l : List UInt8} {k : Nat} (hk : k < 11) (h : ∀ i, i < k → (signsL.getD i []).isPrefixOf l = false) (h2 : (signsL.getD k []).isPrefixOf l = true) :
    signS l = some (⟨4, signsL.getD k [], 0, 0⟩, (signsL.getD k []).length) := by
  have hl : signsL.length = 11 := rfl
  have e : ∀ i (h : i < signsL.length), signsL.getD i [] = signsL[i] := fun i h => by rw [List.getD_eq_getElem?_getD, List.getElem?_eq_getElem h]; rfl
  unfold signS
  rw [find_at (fun x => x.isPrefixOf l) signsL k (by omega) (fun i hi hik => by have := h i hik; rw [e i hi] at this; exact this) (by rw [e k (by omega)] at h2; exact h2)]
  rw [e k (by omega)]
theorem sgGet (k : Nat) (h : k < 11) : (signsL.getD k []).length ≤ 2 := by
  have e : signsL.getD k [] = signsL[k]'h := by rw [List.getD_eq_getElem?_getD, List.getElem?_eq_getElem (show k < signsL.length from h)]; rfl
  rw [e]; exact (signs_len (List.getElem_mem _)).2
theorem Sg.on {w w' : World} {b : Nat} (h : Sg w) (hb : 2 < b) (hB : Below b w w') : Sg w' := ⟨by have := hB.size; have := h.1; omega, fun i hi => by
  rw [← h.2 i hi]
  exact hB.cell hb⟩
theorem Sg.alloc {w : World} (h : Sg w) (o : Obj) : Sg (w.alloc o) := h.on h.1 ((Below.refl _ w).alloc (Nat.le_refl _) o)
theorem load_sg {w : World} (h : Sg w) : w.cell? ⟨2, 0, none⟩ = some (.string (St [33, 61])) ∧ w.cell? ⟨2, 1, none⟩ = some (.string (St [60, 61])) ∧ w.cell? ⟨2, 2, none⟩ = some (.string (St [62, 61])) ∧ w.cell? ⟨2, 3, none⟩ = some (.string (St [124])) ∧ w.cell? ⟨2, 4, none⟩ = some (.string (St [44])) ∧ w.cell? ⟨2, 5, none⟩ = some (.string (St [40])) ∧ w.cell? ⟨2, 6, none⟩ = some (.string (St [41])) ∧ w.cell? ⟨2, 7, none⟩ = some (.string (St [58])) ∧ w.cell? ⟨2, 8, none⟩ = some (.string (St [61])) ∧ w.cell? ⟨2, 9, none⟩ = some (.string (St [60])) ∧ w.cell? ⟨2, 10, none⟩ = some (.string (St [62])) :=
  ⟨h.2 0 (by decide), h.2 1 (by decide), h.2 2 (by decide), h.2 3 (by decide), h.2 4 (by decide), h.2 5 (by decide), h.2 6 (by decide), h.2 7 (by decide), h.2 8 (by decide), h.2 9 (by decide), h.2 10 (by decide)⟩
abbrev z31 : Array Value := #[.int .i64 0, .string ⟨#[]⟩, .int .i64 0, .int .i64 0]
theorem St_nil : St [] = ⟨#[]⟩ := rfl
set_option maxRecDepth 100000 in
set_option maxHeartbeats 1000000 in
theorem sign_any (l : List UInt8) (w : World) (hS : Sg w) : Calls Tryz.prog 156 #[.string (St l)] w fun e w' => e = .returned (ansV (signS l)) ∧ Below w.heap.size w w' := by
  have h0 := hS.1
  have cc := load_sg (hS.alloc (.cells z31 85))
  obtain ⟨c0, c1, c2, c3, c4, c5, c6, c7, c8, c9, c10⟩ := cc
  clear hS
  go_enter Tryz.func156, Tryz.ntmps156
  go_wp2_with fail
  clear c0 c1 c2 c3 c4 c5 c6 c7 c8 c9 c10
  go_loopw [7] (fun i wr => ∃ k : Nat, (k : Int) ≤ 11 ∧ i = .int .i64 k ∧ Hid (∀ i, i < k → (signsL.getD i []).isPrefixOf l = false) ∧ w.alloc (.cells z31 85) = wr) (fun i _ => 11 - (intOf i).toNat)
  case atStart => exact ⟨0, by omega, rfl, fun i hi => by omega, rfl⟩
  case round =>
    obtain ⟨k, hk, rfl, HA, hw⟩ := hrel
    by_cases hlt : k < 11
    · have hi := sg_idx k hlt
      have hI : (k : Int) < 11 := by omega
      have HL := hid hlt
      have HY := hid (@sign_yes l k hlt HA.out)
      generalize hx : signsL.getD k [] = x at *
      have HX := hid hx
      clear hlt hx
      have hsx := St_size x
      cases hc : x.isPrefixOf l with
      | true =>
        have HZ := hid (HY.out hc)
        clear HY
        subst hw
        go_wp2_with (go_at_call 191; refine (pre_any _ _ _).mono ?_; rintro e w2 ⟨rfl, rfl⟩; rw [hc])
        refine bodyPost_ret (v := .tuple #[TV 4 x 0 0, .int .i64 x.length]) (by simp [results, Tryz.results156, go_sem]) rfl ⟨by rw [HZ.out]; rfl, by go_grown⟩
      | false =>
        clear HY
        go_wp2_with (go_at_call 191; refine (pre_any _ _ _).mono ?_; rintro e w2 ⟨rfl, rfl⟩; rw [hc])
        go_roundw
        case rel =>
          refine ⟨k + 1, by omega, by go_num, ?_, hw⟩
          intro i hik
          rcases Nat.lt_or_ge i k with h1 | h1
          · exact HA.out i h1
          · obtain rfl : i = k := by omega
            rw [HX.out]; exact hc
        case measure => simp [intOf]; omega
    · have hk11 : k = 11 := by omega
      subst hk11
      have HZ := hid (sign_no (l := l) (fun i hi => HA.out i hi))
      subst hw
      go_wp2_with fail
      refine bodyPost_ret (v := .tuple #[TV 0 [] 0 0, .int .i64 0]) (by simp [results, Tryz.results156, go_sem]; rfl) rfl ⟨by rw [HZ.out]; rfl, by go_grown⟩
end Go.Proofs.YtmpjmimhoikknaaGreatDoor
namespace Go.Proofs.YtmpjmimhoikknaaGreatDoor
open Go.RowKit
theorem lt_of_block {w : World} {b : Nat} {o : Obj} (h : w.heap[b]? = some o) : b < w.heap.size := by
  apply Classical.byContradiction; intro hn
  rw [Array.getElem?_eq_none (by omega)] at h; cases h
theorem block_on {w w' : World} {b : Nat} {o : Obj} (h : w.heap[b]? = some o) (hb : Below w.heap.size w w') : w'.heap[b]? = some o := (hb.block b (lt_of_block h)).trans h
theorem block_cell {w : World} {b : Nat} {xs : Array Value} {t : TypeId} {fz : Nat × Nat} (h : w.heap[b]? = some (.cells xs t fz)) (o : Nat) : w.cell? ⟨b, o, none⟩ = xs[o]? := by
  simp [World.cell?, h]
theorem alloc_block (w : World) (o : Obj) : (w.alloc o).heap[w.heap.size]? = some o := by
  show (w.heap.push o)[w.heap.size]? = _
  simp
theorem block_frozen {w : World} {b : Nat} {xs : Array Value} {t : TypeId} (h : w.heap[b]? = some (.cells xs t (0, 0))) (o : Nat) : w.frozen? ⟨b, o, none⟩ = false := by
  simp [World.frozen?, h]
theorem block_set {w : World} {b : Nat} {xs : Array Value} {t : TypeId} {fz : Nat × Nat} (h : w.heap[b]? = some (.cells xs t fz)) (o : Nat) (v : Value) : (w.setCell ⟨b, o, none⟩ v).heap[b]? = some (.cells (xs.setIfInBounds o v) t fz) := by
  simp [World.setCell, Array.getElem?_modify, h]
/-- A token's box. -/
def Bx (w : World) (b : Nat) (c0 c1 c2 c3 : Value) : Prop := w.heap[b]? = some (.cells #[c0, c1, c2, c3] 85 (0, 0))
theorem Bx.cells {w : World} {b : Nat} {c0 c1 c2 c3 : Value} (h : Bx w b c0 c1 c2 c3) : w.cell? ⟨b, 0, none⟩ = some c0 ∧ w.cell? ⟨b, 1, none⟩ = some c1 ∧ w.cell? ⟨b, 2, none⟩ = some c2 ∧ w.cell? ⟨b, 3, none⟩ = some c3 :=
  ⟨block_cell h 0, block_cell h 1, block_cell h 2, block_cell h 3⟩
theorem Bx.frozen {w : World} {b : Nat} {c0 c1 c2 c3 : Value} (h : Bx w b c0 c1 c2 c3) (o : Nat) : w.frozen? ⟨b, o, none⟩ = false := block_frozen h o
theorem Bx.on {w w' : World} {b : Nat} {c0 c1 c2 c3 : Value} (h : Bx w b c0 c1 c2 c3) (hb : Below w.heap.size w w') : Bx w' b c0 c1 c2 c3 := block_on h hb
theorem Bx.made (w : World) (c0 c1 c2 c3 : Value) : Bx (w.alloc (.cells #[c0, c1, c2, c3] 85)) w.heap.size c0 c1 c2 c3 := alloc_block w _
abbrev set4 (w : World) (b : Nat) (d0 d1 d2 d3 : Value) : World := (((w.setCell ⟨b, 0, none⟩ d0).setCell ⟨b, 1, none⟩ d1).setCell ⟨b, 2, none⟩ d2).setCell ⟨b, 3, none⟩ d3
theorem Bx.set4 {w : World} {b : Nat} {c0 c1 c2 c3 : Value} (h : Bx w b c0 c1 c2 c3) (d0 d1 d2 d3 : Value) : Bx (set4 w b d0 d1 d2 d3) b d0 d1 d2 d3 :=
  block_set (block_set (block_set (block_set h 0 d0) 1 d1) 2 d2) 3 d3
theorem below_set4 {w0 w : World} {b : Nat} (h : Below w0.heap.size w0 w) (hb : w0.heap.size ≤ b) (d0 d1 d2 d3 : Value) : Below w0.heap.size w0 (set4 w b d0 d1 d2 d3) :=
  (((h.setCell (p := ⟨b, 0, none⟩) hb d0).setCell (p := ⟨b, 1, none⟩) hb d1).setCell (p := ⟨b, 2, none⟩) hb d2).setCell (p := ⟨b, 3, none⟩) hb d3
/-- What a call behind the box keeps. -/
theorem box_keep {w w3 : World} {c0 c1 c2 c3 : Value} (hb : Below (w.alloc (.cells #[c0, c1, c2, c3] 85)).heap.size (w.alloc (.cells #[c0, c1, c2, c3] 85)) w3) : Bx w3 w.heap.size c0 c1 c2 c3 ∧ Below w.heap.size w w3 :=
  ⟨(Bx.made w c0 c1 c2 c3).on hb, ((Below.refl _ w).alloc (Nat.le_refl _) _).trans (hb.mono (by simp))⟩
end Go.Proofs.YtmpjmimhoikknaaGreatDoor
