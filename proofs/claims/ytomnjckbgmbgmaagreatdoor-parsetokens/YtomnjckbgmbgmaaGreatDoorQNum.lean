/-
  What number returns: the digits of a number, what strconv.ParseInt makes of them.
-/
import Derived.Test.YtomnjckbgmbgmaaGreatDoorQBox
import Derived.Test.YtomnjckbgmbgmaaGreatDoorQShelf
import Derived.Lib.ParseIntB
import Derived.Lib.ConvBytes
namespace Go.Proofs.YtomnjckbgmbgmaaGreatDoor
open Go.RowKit

theorem uint_digits (ds : List UInt8) : ∀ acc, (∀ x ∈ ds, isDg x = true) → acc < 18446744073709551616 →
    Lib.parseUintM 18446744073709551615 acc ds = if dvalF acc ds < 18446744073709551616 then .ok (dvalF acc ds) else .range := by
  induction ds with
  | nil => intro acc _ h; simp [Lib.parseUintM, dvalF, h]
  | cons c r ih =>
    intro acc hd h
    have hc := hd c (by simp)
    simp [isDg] at hc
    have hge := dvalF_acc r (dstep acc c)
    rw [Lib.parseUintM, if_pos hc, dvalF_cons]
    have hst : dstep acc c = acc * 10 + (c.toNat - 48) := rfl
    by_cases h1 : 1844674407370955162 ≤ acc
    · rw [if_pos h1, if_neg (by omega)]
    · rw [if_neg h1]
      by_cases h2 : 18446744073709551615 < acc * 10 + (c.toNat - 48)
      · rw [if_pos h2, if_neg (by omega)]
      · rw [if_neg h2, ← hst]
        exact ih _ (fun x hx => hd x (by simp [hx])) (by omega)
def sgnL (ng : Bool) : List UInt8 := if ng then [45] else []
def numE (ng : Bool) (v : Nat) : Lib.NumEnd Int := match numV ng v with | some x => .ok x | none => .range
theorem e64 : 2 ^ 64 - 1 = 18446744073709551615 := by simp
theorem e63 : 2 ^ (64 - 1) = 9223372036854775808 := by simp
theorem z64 : 0 < 18446744073709551616 := by omega
theorem uintB (ds : List UInt8) (hd : ∀ x ∈ ds, isDg x = true) (hne : ds ≠ []) : Lib.parseUintB 64 ds = if dval ds < 18446744073709551616 then .ok (dval ds) else .range := by
  unfold Lib.parseUintB
  rw [if_neg hne, e64]
  exact uint_digits ds 0 hd z64
theorem numV_t (v : Nat) (h : v ≤ 9223372036854775808) : numV true v = some (-(v : Int)) := by
  unfold numV; rw [if_pos rfl, if_pos h]
theorem numV_tn (v : Nat) (h : ¬ v ≤ 9223372036854775808) : numV true v = none := by
  unfold numV; rw [if_pos rfl, if_neg h]
theorem numV_f (v : Nat) (h : v < 9223372036854775808) : numV false v = some (v : Int) := by
  unfold numV; rw [if_neg Bool.false_ne_true, if_pos h]
theorem numV_fn (v : Nat) (h : ¬ v < 9223372036854775808) : numV false v = none := by
  unfold numV; rw [if_neg Bool.false_ne_true, if_neg h]
theorem numE_t (v : Nat) : (if ¬True ∧ 9223372036854775808 ≤ v then (.range : Lib.NumEnd Int) else if True ∧ 9223372036854775808 < v then .range else .ok (if True then -(v : Int) else v)) = numE true v := by
  rw [if_neg (fun h => h.1 trivial)]
  unfold numE
  by_cases h2 : v ≤ 9223372036854775808
  · rw [numV_t v h2, if_neg (fun h => Nat.not_lt.2 h2 h.2), if_pos trivial]
  · rw [numV_tn v h2, if_pos ⟨trivial, Nat.not_le.1 h2⟩]
theorem numE_f (v : Nat) : (if ¬False ∧ 9223372036854775808 ≤ v then (.range : Lib.NumEnd Int) else if False ∧ 9223372036854775808 < v then .range else .ok (if False then -(v : Int) else v)) = numE false v := by
  rw [if_neg (fun h : False ∧ 9223372036854775808 < v => h.1)]
  unfold numE
  rcases Nat.lt_or_ge v 9223372036854775808 with h2 | h2
  · rw [if_neg (fun h => Nat.not_le.2 h2 h.2), numV_f v h2, if_neg (fun h => h)]
  · rw [if_pos ⟨fun h => h, h2⟩, numV_fn v (fun h => Nat.not_lt.2 h2 h)]
theorem numE_big (ng : Bool) (v : Nat) (h : ¬ v < 18446744073709551616) : numE ng v = .range := by
  unfold numE
  cases ng
  · rw [numV_fn v (by omega)]
  · rw [numV_tn v (by omega)]
theorem parse_digits (ng : Bool) (ds : List UInt8) (hd : ∀ x ∈ ds, isDg x = true) (hne : ds ≠ []) : Lib.parseIntB 64 (sgnL ng ++ ds) = numE ng (dval ds) := by
  have hu := uintB ds hd hne
  cases ng with
  | true =>
    show Lib.parseIntB 64 (45 :: ds) = _
    unfold Lib.parseIntB
    simp only [show (UInt8.toNat 45) = 45 from rfl]
    rw [if_pos (Or.inr trivial), hu, e63]
    by_cases h : dval ds < 18446744073709551616
    · rw [if_pos h]; exact numE_t _
    · rw [if_neg h, numE_big _ _ h]
  | false =>
    cases ds with
    | nil => exact absurd rfl hne
    | cons c r =>
      have hc := hd c (by simp)
      simp [isDg] at hc
      show Lib.parseIntB 64 (c :: r) = _
      unfold Lib.parseIntB
      have h45 : (c.toNat = 45) = False := by simp; omega
      simp only [h45]
      rw [if_neg (fun h => h.elim (by omega) id), hu, e63]
      by_cases h : dval (c :: r) < 18446744073709551616
      · rw [if_pos h]; exact numE_f _
      · rw [if_neg h, numE_big _ _ h]
/-- What the walks ask of the world: the table of signs, and the variable ErrRange. -/
def Gd (w : World) : Prop := Sg w ∧ 9 ≤ w.heap.size ∧ ∃ ev, w.cell? ⟨5, 0, none⟩ = some ev ∧ (ev = .nilIface ∨ ∃ te pe, ev = .iface te pe)
theorem Gd.on {w w' : World} {b : Nat} (h : Gd w) (hb : 9 ≤ b) (hB : Below b w w') : Gd w' := by
  obtain ⟨h1, h2, ev, h3, h4⟩ := h
  refine ⟨h1.on (by omega) hB, by have := hB.size; omega, ev, ?_, h4⟩
  rw [← h3]; exact hB.cell (show 5 < b by omega)
theorem Gd.next {w w' : World} (h : Gd w) (hB : Below w.heap.size w w') : Gd w' := h.on h.2.1 hB
theorem Gd.alloc {w : World} (h : Gd w) (o : Obj) : Gd (w.alloc o) := h.next ((Below.refl _ w).alloc (Nat.le_refl _) o)
def NumOk (ng : Bool) (ds : List UInt8) (w : World) (e : Ending) (w' : World) : Prop :=
  ((∃ v, numV ng (dval ds) = some v ∧ e = .returned (.tuple #[.int .i64 v, .nilIface])) ∨ (numV ng (dval ds) = none ∧ ∃ (N : Nat) (x : Int), e = .returned (.tuple #[.int .i64 x, .iface 156 (.pointer (some ⟨N, 0, none⟩))]))) ∧ Below w.heap.size w w'
theorem bytes_below (w : World) (t : _) : Below w.heap.size w (Lib.bytesWorld w 5 t) := Lib.bytesWorld_below _ _ _
theorem parse_any (ng : Bool) (ds : List UInt8) (hd : ∀ x ∈ ds, isDg x = true) (hne : ds ≠ []) (hl : ds.length ≤ 140737488355328) (w : World) (hG : Gd w) :
    Calls Tryz.prog 126 #[.string (St (sgnL ng ++ ds)), .int .i64 10, .int .i64 64] w (NumOk ng ds w) := by
  have hp := parse_digits ng ds hd hne
  have hsz : (St (sgnL ng ++ ds)).size ≤ 140737488355329 := by
    rw [St_size]; cases ng <;> simp [sgnL] <;> omega
  rw [← St_toList (sgnL ng ++ ds)] at hp
  unfold numE at hp
  cases hv : numV ng (dval ds) with
  | some v =>
    rw [hv] at hp
    refine (Tryz.strconv_ParseInt_10_at64_ok _ (by omega) v hp w).mono ?_
    rintro e w' ⟨rfl, h⟩
    refine ⟨.inl ⟨v, hv, rfl⟩, ?_⟩
    rcases h with rfl | ⟨t, rfl⟩
    · exact Below.refl _ _
    · exact bytes_below _ _
  | none =>
    rw [hv] at hp
    obtain ⟨-, -, ev, h3, h4⟩ := hG
    refine (Tryz.strconv_ParseInt_10_at64_range _ (by omega) hp ev w h3 h4).mono ?_
    rintro e w' ⟨N, rfl, h1, h2, h3⟩
    exact ⟨.inr ⟨hv, N, _, rfl⟩, h3⟩
end Go.Proofs.YtomnjckbgmbgmaaGreatDoor
