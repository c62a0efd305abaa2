/-
  What value.Compare, and what it calls, return, for every two values.
  The order of values: one of three answers, its opposite the other way round, nought just for the same value, and what stands ahead of what stands ahead does so itself.
  Blocks of memory, as the walks carry them: what a block holds, what a call that turns nothing older leaves.
  The register of the sum: one bit's step, eight of them, and what crc.through returns.
  What crc.More, crc.Sum, crc.Slot and the reference's return, for all bytes.
  What crc.Sum, crc.Slot, the reference's and the statements' own shown return.
-/
import Derived.Test.YtlbjbkhcnafhcaaGreatQValid
import Derived.Handy
import Derived.Deep.DeepCutAuto
import Derived.Deep.Light
import Derived.Lib.QuietBelow
import Derived.WalkKit
import Derived.WalkSpells
import Derived.WalkLawsBesides
import Derived.Deep.RegionWith
import Derived.BigQuiet
import Derived.ChangeKeysEq
import Derived.Lib.SlBytesConst
namespace Go.Proofs.YtlbjbkhcnafhcaaGreat
open Go.RowKit

/- What was there is as it was; blocks may have come; the tape was asked no less often. -/
structure Grew (w w' : World) : Prop where
  below : Below w.heap.size w w'
  drawn : w.drawn ≤ w'.drawn
theorem Grew.refl (w : World) : Grew w w := ⟨Below.refl _ _, Nat.le_refl _⟩
theorem Grew.trans {a b c : World} (h : Grew a b) (k : Grew b c) : Grew a c := ⟨h.below.trans (k.below.mono h.below.size), Nat.le_trans h.drawn k.drawn⟩
theorem Grew.drewN {a b : World} (h : Grew a b) (n : Nat) : Grew a (b.drewN n) := ⟨h.below.trans ⟨rfl, rfl, rfl, Nat.le_refl _, fun _ _ => rfl⟩, Nat.le_trans h.drawn (Nat.le_add_right _ n)⟩
theorem Grew.drew {a b : World} (h : Grew a b) : Grew a b.drew := ⟨h.below.drew, Nat.le_trans h.drawn (Nat.le_add_right _ 1)⟩
theorem Grew.alloc {a b : World} (h : Grew a b) (o : Obj) : Grew a (b.alloc o) := ⟨h.below.alloc h.below.size o, h.drawn⟩
def cmpI (a b : Int) : Int := if a < b then -1 else if b < a then 1 else 0
def nth8 (a0 a1 a2 a3 a4 a5 a6 a7 : Int) : Nat → Int
  | 0 => a0 | 1 => a1 | 2 => a2 | 3 => a3 | 4 => a4 | 5 => a5 | 6 => a6 | 7 => a7 | _ => 0
/- The first place from k on, of m places, at which x and y part, and how. -/
def cmpFrom (x y : Nat → Int) : Nat → Nat → Int
  | 0, _ => 0
  | m + 1, k => if x k = y k then cmpFrom x y m (k + 1) else cmpI (x k) (y k)
def Arr (w : World) (b o : Nat) (x : Nat → Int) : Prop := ∀ i, i < 8 → w.cell? ⟨b, o + i, none⟩ = some (.int .i64 (x i))

theorem hid {p : Prop} (h : p) : Hid p := h
theorem ret_int {k : IntKind} {a b : Int} (h : a = b) : Ending.returned (.int k a) = .returned (.int k b) := by rw [h]

set_option maxHeartbeats 400000 in
theorem cmpInt_any {a b : Int} {w : World} :
    Calls Tryz.prog 83 #[.int .i64 a, .int .i64 b] w fun e w' => e = .returned (.int .i64 (cmpI a b)) ∧ w' = w := by
  go_enter Tryz.func83, Tryz.ntmps83
  go_wp2
  all_goals
    go_ret
    refine ⟨ret_int ?_, rfl⟩
    unfold cmpI
    split <;> (try split) <;> omega
theorem cmpI_self (a : Int) : cmpI a a = 0 := by simp [cmpI]
theorem cmpI_ne {a b : Int} (h : ¬ a = b) : (cmpI a b != 0) = true := by unfold cmpI; split <;> (try split) <;> simp <;> omega

theorem lt8 {i : Nat} (h : i < 8) : i = 0 ∨ i = 1 ∨ i = 2 ∨ i = 3 ∨ i = 4 ∨ i = 5 ∨ i = 6 ∨ i = 7 := by omega
theorem below_drewN {B : Nat} {a w : World} (h : Below B a w) (n : Nat) : Below B a (w.drewN n) := h.trans ⟨rfl, rfl, rfl, Nat.le_refl _, fun _ _ => rfl⟩
theorem cmpFrom_eq {x y : Nat → Int} {k : Nat} (hk : k < 8) (h : x k = y k) : cmpFrom x y (8 - k) k = cmpFrom x y (8 - (k + 1)) (k + 1) := by
  obtain ⟨m, hm⟩ : ∃ m, 8 - k = m + 1 := ⟨8 - (k + 1), by omega⟩
  rw [hm, show 8 - (k + 1) = m from by omega]; simp [cmpFrom, h]
theorem cmpFrom_ne {x y : Nat → Int} {k : Nat} (hk : k < 8) (h : ¬ x k = y k) : cmpFrom x y (8 - k) k = cmpI (x k) (y k) := by
  obtain ⟨m, hm⟩ : ∃ m, 8 - k = m + 1 := ⟨8 - (k + 1), by omega⟩
  rw [hm]; simp [cmpFrom, h]

set_option maxHeartbeats 400000 in
theorem cmpBuckets_any {a0 a1 a2 a3 a4 a5 a6 a7 b0 b1 b2 b3 b4 b5 b6 b7 : Int} {w : World} :
    Calls Tryz.prog 134 #[H8 a0 a1 a2 a3 a4 a5 a6 a7, H8 b0 b1 b2 b3 b4 b5 b6 b7] w fun e w' => e = .returned (.int .i64 (cmpFrom (nth8 a0 a1 a2 a3 a4 a5 a6 a7) (nth8 b0 b1 b2 b3 b4 b5 b6 b7) 8 0)) ∧ Grew w w' := by
  generalize hx : nth8 a0 a1 a2 a3 a4 a5 a6 a7 = x
  generalize hy : nth8 b0 b1 b2 b3 b4 b5 b6 b7 = y
  have HX := (show Hid (nth8 a0 a1 a2 a3 a4 a5 a6 a7 = x) from hx)
  have HY := (show Hid (nth8 b0 b1 b2 b3 b4 b5 b6 b7 = y) from hy)
  clear hx hy
  go_enter Tryz.func134, Tryz.ntmps134
  go_wp2
  go_loopw [7] (fun i w'' => ∃ k : Nat, k ≤ 8 ∧ i = .int .i64 k ∧ Hid (cmpFrom x y (8 - k) k = cmpFrom x y 8 0) ∧ Hid (Arr w'' w.heap.size 0 x) ∧ Hid (Arr w'' (w.heap.size + 1) 0 y) ∧ Hid (Grew w w'')) (fun i _ => 8 - (intOf i).toNat)
  case atStart => 
    refine ⟨0, by omega, rfl, rfl, ?_, ?_, ?_⟩
    · intro i hi
      rw [← HX.out]
      rcases lt8 hi with rfl | rfl | rfl | rfl | rfl | rfl | rfl | rfl <;> (simp [nth8, go_sem]; done)
    · intro i hi
      rw [← HY.out]
      rcases lt8 hi with rfl | rfl | rfl | rfl | rfl | rfl | rfl | rfl <;> (simp [nth8, go_sem]; done)
    · exact ((Grew.refl _).alloc _).alloc _
  case round =>
    obtain ⟨k, hk, rfl, HC, HA, HB, HBel⟩ := hrel
    by_cases hlt : k < 8
    · have hA : wr.cell? ⟨w.heap.size, k, none⟩ = some (.int .i64 (x k)) := by have := HA.out k hlt; simpa using this
      have hB : wr.cell? ⟨w.heap.size + 1, k, none⟩ = some (.int .i64 (y k)) := by have := HB.out k hlt; simpa using this
      by_cases he : x k = y k
      · have H0 : Hid (x k = y k) := he
        rw [← he] at hB
        have hz := cmpI_self (x k)
        clear he
        go_wp2_with fail
        go_quiet ((go_at_call 83; exact Calls.quiet_of_same cmpInt_any))
        go_wp2
        go_roundw
        case rel => exact ⟨k + 1, by omega, by go_num, (cmpFrom_eq hlt H0.out).symm.trans HC.out, HA.out, HB.out, HBel.out.drewN _⟩
        case measure => simp [intOf]; omega
      · have H0 : Hid (¬ x k = y k) := he
        have hz := cmpI_ne he
        clear he
        go_wp2_with fail
        go_quiet ((go_at_call 83; exact Calls.quiet_of_same cmpInt_any))
        go_wp2
        go_ret
        exact ⟨ret_int ((cmpFrom_ne hlt H0.out).symm.trans HC.out), HBel.out.drewN _⟩
    · have h8 : k = 8 := by omega
      subst h8
      go_wp2
      go_ret
      exact ⟨ret_int (by have := HC.out; simpa [cmpFrom] using this), HBel.out⟩

/- The order of texts, by their bytes. -/
def cmpB : List UInt8 → List UInt8 → Int
  | [], [] => 0
  | [], _ :: _ => -1
  | _ :: _, [] => 1
  | a :: x, b :: y => if a < b then -1 else if b < a then 1 else cmpB x y
theorem cmpB_less (x y : List UInt8) : Op.bytesLess x y = decide (cmpB x y = -1) := by
  induction x generalizing y with
  | nil => cases y <;> simp [Op.bytesLess, cmpB]
  | cons a x ih =>
    cases y with
    | nil => simp [Op.bytesLess, cmpB]
    | cons b y =>
      simp only [Op.bytesLess, cmpB, ih]
      by_cases h1 : a < b
      · simp [h1]
      · by_cases h2 : b < a
        · have : ¬ a = b := fun e => by subst e; exact h1 h2
          simp [h1, h2, this]
        · have : a = b := UInt8.le_antisymm (UInt8.not_lt.1 h2) (UInt8.not_lt.1 h1)
          subst this; simp [h1]
theorem cmpB_zero (x y : List UInt8) : cmpB x y = 0 ↔ x = y := by
  induction x generalizing y with
  | nil => cases y <;> simp [cmpB]
  | cons a x ih =>
    cases y with
    | nil => simp [cmpB]
    | cons b y =>
      simp only [cmpB, List.cons.injEq]
      by_cases h1 : a < b
      · have : ¬ a = b := fun e => by subst e; exact UInt8.lt_irrefl _ h1
        simp [h1, this]
      · by_cases h2 : b < a
        · have : ¬ a = b := fun e => by subst e; exact h1 h2
          simp [h1, h2, this]
        · have : a = b := UInt8.le_antisymm (UInt8.not_lt.1 h2) (UInt8.not_lt.1 h1)
          subst this; simp [h1, ih]
theorem cmpB_three (x y : List UInt8) : cmpB x y = -1 ∨ cmpB x y = 0 ∨ cmpB x y = 1 := by
  induction x generalizing y with
  | nil => cases y <;> simp [cmpB]
  | cons a x ih =>
    cases y with
    | nil => simp [cmpB]
    | cons b y =>
      simp only [cmpB]
      split
      · simp
      · split
        · simp
        · exact ih y
def cmpS (s t : ByteArray) : Int := cmpB s.toList t.toList
set_option maxHeartbeats 400000 in
theorem cmpStr_any {s t : ByteArray} {w : World} :
    Calls Tryz.prog 133 #[.string s, .string t] w fun e w' => e = .returned (.int .i64 (cmpS s t)) ∧ w' = w := by
  go_enter Tryz.func133, Tryz.ntmps133
  go_wp2
  all_goals
    go_ret
    refine ⟨ret_int ?_, rfl⟩
    have h3 := cmpB_three s.toList t.toList
    have hl := cmpB_less s.toList t.toList
    have h0 := cmpB_zero s.toList t.toList
    unfold cmpS
    simp_all
  all_goals omega

def thn (c d : Int) : Int := if c = 0 then d else c
theorem thn_zero {c d : Int} (h : (c != 0) = false) : thn c d = d := by simp at h; simp [thn, h]
theorem thn_ne {c d : Int} (h : (c != 0) = true) : thn c d = c := by simp at h; simp [thn, h]
def cmpV (k n : Int) (s : ByteArray) (a0 a1 a2 a3 a4 a5 a6 a7 : Int) (k' n' : Int) (s' : ByteArray) (b0 b1 b2 b3 b4 b5 b6 b7 : Int) : Int :=
  thn (cmpI k k') (thn (cmpI n n') (thn (cmpS s s') (cmpFrom (nth8 a0 a1 a2 a3 a4 a5 a6 a7) (nth8 b0 b1 b2 b3 b4 b5 b6 b7) 8 0)))
set_option maxHeartbeats 400000 in
theorem compare_any {k n : Int} {s : ByteArray} {a0 a1 a2 a3 a4 a5 a6 a7 : Int} {k' n' : Int} {s' : ByteArray} {b0 b1 b2 b3 b4 b5 b6 b7 : Int} {w : World} :
    Calls Tryz.prog 113 #[V k n s a0 a1 a2 a3 a4 a5 a6 a7, V k' n' s' b0 b1 b2 b3 b4 b5 b6 b7] w fun e w' => e = .returned (.int .i64 (cmpV k n s a0 a1 a2 a3 a4 a5 a6 a7 k' n' s' b0 b1 b2 b3 b4 b5 b6 b7)) ∧ Grew w w' := by
  generalize hr : cmpV k n s a0 a1 a2 a3 a4 a5 a6 a7 k' n' s' b0 b1 b2 b3 b4 b5 b6 b7 = r
  unfold cmpV at hr
  cases h1 : cmpI k k' != 0
  · rw [thn_zero h1] at hr
    cases h2 : cmpI n n' != 0
    · rw [thn_zero h2] at hr
      cases h3 : cmpS s s' != 0
      · rw [thn_zero h3] at hr
        have HR : Hid _ := hr
        clear hr
        go_enter Tryz.func113, Tryz.ntmps113
        go_wp2_with (first | (go_at_call 83; refine cmpInt_any.mono ?_; rintro e w' ⟨rfl, rfl⟩) | (go_at_call 133; refine cmpStr_any.mono ?_; rintro e w' ⟨rfl, rfl⟩) | (go_at_call 134; refine cmpBuckets_any.mono ?_; rintro e w' ⟨rfl, hb⟩))
        go_ret
        exact ⟨ret_int HR.out, (((Grew.refl _).alloc _).alloc _).trans hb⟩
      · rw [thn_ne h3] at hr
        have HR : Hid _ := hr
        clear hr
        go_enter Tryz.func113, Tryz.ntmps113
        go_wp2_with (first | (go_at_call 83; refine cmpInt_any.mono ?_; rintro e w' ⟨rfl, rfl⟩) | (go_at_call 133; refine cmpStr_any.mono ?_; rintro e w' ⟨rfl, rfl⟩))
        go_ret
        exact ⟨ret_int HR.out, ((Grew.refl _).alloc _).alloc _⟩
    · rw [thn_ne h2] at hr
      have HR : Hid _ := hr
      clear hr
      go_enter Tryz.func113, Tryz.ntmps113
      go_wp2_with (first | (go_at_call 83; refine cmpInt_any.mono ?_; rintro e w' ⟨rfl, rfl⟩))
      go_ret
      exact ⟨ret_int HR.out, ((Grew.refl _).alloc _).alloc _⟩
  · rw [thn_ne h1] at hr
    have HR : Hid _ := hr
    clear hr
    go_enter Tryz.func113, Tryz.ntmps113
    go_wp2_with (first | (go_at_call 83; refine cmpInt_any.mono ?_; rintro e w' ⟨rfl, rfl⟩))
    go_ret
    exact ⟨ret_int HR.out, ((Grew.refl _).alloc _).alloc _⟩
end Go.Proofs.YtlbjbkhcnafhcaaGreat
namespace Go.Proofs.YtlbjbkhcnafhcaaGreat

/- The order of values is one: each of its parts is, and one part behind another. -/
def tri (x y z : Int) : Prop :=
  (x = -1 ∨ x = 0 ∨ x = 1) ∧ (y = -1 ∨ y = 0 ∨ y = 1) ∧ (z = -1 ∨ z = 0 ∨ z = 1) ∧
  (x = 0 → z = y) ∧ (y = 0 → z = x) ∧ (x = -1 → y = -1 → z = -1) ∧ (x = 1 → y = 1 → z = 1)
theorem tri_cmpI (a b c : Int) : tri (cmpI a b) (cmpI b c) (cmpI a c) := by
  unfold tri cmpI
  repeat' split
  all_goals omega
theorem tri_thn {x y z x' y' z' : Int} (h : tri x y z) (h' : tri x' y' z') : tri (thn x x') (thn y y') (thn z z') := by
  obtain ⟨hx, hy, hz, h1, h2, h3, h4⟩ := h
  obtain ⟨hx', hy', hz', h1', h2', h3', h4'⟩ := h'
  rcases hx with rfl | rfl | rfl <;> rcases hy with rfl | rfl | rfl <;> rcases hz with rfl | rfl | rfl <;>
    first
    | (exfalso; clear hx' hy' hz' h1' h2' h3' h4'; omega)
    | (simp only [thn]; refine ⟨?_, ?_, ?_, ?_, ?_, ?_, ?_⟩ <;> simp <;> omega)
theorem cmpFrom_thn (x y : Nat → Int) (m k : Nat) : cmpFrom x y (m + 1) k = thn (cmpI (x k) (y k)) (cmpFrom x y m (k + 1)) := by
  unfold thn
  simp only [cmpFrom]
  by_cases h : x k = y k
  · simp [h, cmpI]
  · rw [if_neg h, if_neg (fun e => by have := cmpI_ne h; simp [e] at this)]
theorem tri_cmpFrom (x y z : Nat → Int) (m k : Nat) : tri (cmpFrom x y m k) (cmpFrom y z m k) (cmpFrom x z m k) := by
  induction m generalizing k with
  | zero => unfold tri; simp [cmpFrom]
  | succ m ih => simp only [cmpFrom_thn]; exact tri_thn (tri_cmpI _ _ _) (ih _)
theorem cmpB_thn (a b : UInt8) (x y : List UInt8) : cmpB (a :: x) (b :: y) = thn (cmpI (a.toNat : Int) (b.toNat : Int)) (cmpB x y) := by
  simp only [cmpB, thn, cmpI, UInt8.lt_iff_toNat_lt]
  repeat' split
  all_goals first | rfl | omega
theorem tri_left {y : Int} (h : y = -1 ∨ y = 0 ∨ y = 1) : tri (-1) y (-1) := by unfold tri; omega
theorem tri_right {x : Int} (h : x = -1 ∨ x = 0 ∨ x = 1) : tri x 1 1 := by unfold tri; omega
theorem tri_mid {z : Int} (h : z = -1 ∨ z = 0 ∨ z = 1) : tri 1 (-1) z := by unfold tri; omega
theorem tri_cmpB (x y z : List UInt8) : tri (cmpB x y) (cmpB y z) (cmpB x z) := by
  induction x generalizing y z with
  | nil =>
    cases y with
    | nil => cases z <;> simp [tri, cmpB]
    | cons b y =>
      cases z with
      | nil => simp [tri, cmpB]
      | cons c z => exact tri_left (cmpB_three _ _)
  | cons a x ih =>
    cases y with
    | nil =>
      cases z with
      | nil => simp [tri, cmpB]
      | cons c z => exact tri_mid (cmpB_three _ _)
    | cons b y =>
      cases z with
      | nil => exact tri_right (cmpB_three _ _)
      | cons c z => simp only [cmpB_thn]; exact tri_thn (tri_cmpI _ _ _) (ih _ _)
theorem neg_cmpI (a b : Int) : cmpI b a = -cmpI a b := by
  unfold cmpI
  repeat' split
  all_goals omega
theorem neg_thn {x y x' y' : Int} (h : y = -x) (h' : y' = -x') : thn y y' = -thn x x' := by
  unfold thn
  repeat' split
  all_goals omega
theorem neg_cmpFrom (x y : Nat → Int) (m k : Nat) : cmpFrom y x m k = -cmpFrom x y m k := by
  induction m generalizing k with
  | zero => simp [cmpFrom]
  | succ m ih => simp only [cmpFrom_thn]; exact neg_thn (neg_cmpI _ _) (ih _)
theorem neg_cmpB (x y : List UInt8) : cmpB y x = -cmpB x y := by
  induction x generalizing y with
  | nil => cases y <;> simp [cmpB]
  | cons a x ih =>
    cases y with
    | nil => simp [cmpB]
    | cons b y => simp only [cmpB_thn]; exact neg_thn (neg_cmpI _ _) (ih _)
section
variable (k n : Int) (s : ByteArray) (a0 a1 a2 a3 a4 a5 a6 a7 : Int) (k' n' : Int) (s' : ByteArray) (b0 b1 b2 b3 b4 b5 b6 b7 : Int) (k'' n'' : Int) (s'' : ByteArray) (c0 c1 c2 c3 c4 c5 c6 c7 : Int)
theorem tri_cmpV : tri (cmpV k n s a0 a1 a2 a3 a4 a5 a6 a7 k' n' s' b0 b1 b2 b3 b4 b5 b6 b7) (cmpV k' n' s' b0 b1 b2 b3 b4 b5 b6 b7 k'' n'' s'' c0 c1 c2 c3 c4 c5 c6 c7) (cmpV k n s a0 a1 a2 a3 a4 a5 a6 a7 k'' n'' s'' c0 c1 c2 c3 c4 c5 c6 c7) :=
  tri_thn (tri_cmpI _ _ _) (tri_thn (tri_cmpI _ _ _) (tri_thn (tri_cmpB _ _ _) (tri_cmpFrom _ _ _ _ _)))
theorem neg_cmpV : cmpV k' n' s' b0 b1 b2 b3 b4 b5 b6 b7 k n s a0 a1 a2 a3 a4 a5 a6 a7 = -cmpV k n s a0 a1 a2 a3 a4 a5 a6 a7 k' n' s' b0 b1 b2 b3 b4 b5 b6 b7 :=
  neg_thn (neg_cmpI _ _) (neg_thn (neg_cmpI _ _) (neg_thn (neg_cmpB _ _) (neg_cmpFrom _ _ _ _)))
theorem cmpI_zero (a b : Int) : cmpI a b = 0 ↔ a = b := by
  unfold cmpI
  repeat' split
  all_goals omega
theorem thn_zero_iff (x y : Int) : thn x y = 0 ↔ x = 0 ∧ y = 0 := by
  unfold thn
  split <;> omega
theorem eqV_cmpV : eqV k n s a0 a1 a2 a3 a4 a5 a6 a7 k' n' s' b0 b1 b2 b3 b4 b5 b6 b7 = (cmpV k n s a0 a1 a2 a3 a4 a5 a6 a7 k' n' s' b0 b1 b2 b3 b4 b5 b6 b7 == 0) := by
  rw [Bool.eq_iff_iff]
  unfold cmpV eqV eqH cmpS
  simp only [cmpFrom_thn]
  simp only [Bool.and_eq_true, decide_eq_true_eq, beq_iff_eq, thn_zero_iff, cmpI_zero, cmpB_zero, cmpFrom, nth8, and_true]
  constructor
  · rintro ⟨⟨rfl, rfl, rfl⟩, h⟩; exact ⟨rfl, rfl, rfl, h⟩
  · rintro ⟨h1, h2, h3, h⟩; exact ⟨⟨h1, h2, bytes_toList_inj h3⟩, h⟩
end
end Go.Proofs.YtlbjbkhcnafhcaaGreat
namespace Go.Proofs.YtlbjbkhcnafhcaaGreat
open Go.RowKit Go.Sort

theorem ret_bool {a b : Bool} (h : a = b) : Ending.returned (.bool a) = .returned (.bool b) := by rw [h]
theorem below_on {W w1 w2 : World} (h : Below W.heap.size W w1) (h2 : Below w1.heap.size w1 w2) : Below W.heap.size W w2 := h.trans (h2.mono h.size)
theorem lt_of_block {w : World} {b : Nat} {o : Obj} (h : w.heap[b]? = some o) : b < w.heap.size := (Array.getElem?_eq_some_iff.1 h).1
theorem block_on {w w' : World} {b : Nat} {o : Obj} (h : w.heap[b]? = some o) (hb : Below w.heap.size w w') : w'.heap[b]? = some o := (hb.block b (lt_of_block h)).trans h
theorem block_cell {w : World} {b : Nat} {xs : Array Value} {t : TypeId} {fz : Nat × Nat} (h : w.heap[b]? = some (.cells xs t fz)) (o : Nat) : w.cell? ⟨b, o, none⟩ = xs[o]? := by
  simp [World.cell?, h]
theorem alloc_block (w : World) (o : Obj) : (w.alloc o).heap[w.heap.size]? = some o := by
  show (w.heap.push o)[w.heap.size]? = _
  simp
end Go.Proofs.YtlbjbkhcnafhcaaGreat
namespace Go.Proofs.YtlbjbkhcnafhcaaGreat.SN
open Go.RowKit

abbrev W32 := BitVec 32
def u (x : W32) : Int := (x.toNat : Int)
def poly : W32 := 0x82f63b78
def stepB (x : W32) : W32 := (x >>> (1 : Nat)) ^^^ (poly &&& (-(x &&& 1)))
def iter (f : W32 → W32) : Nat → W32 → W32
  | 0, x => x
  | k + 1, x => f (iter f k x)
def thr (x : W32) : W32 := iter stepB 8 x
theorem u_range (x : W32) : 0 ≤ u x ∧ u x < 4294967296 := by unfold u; have := x.isLt; omega
theorem u_inj {x y : W32} (h : u x = u y) : x = y := by unfold u at h; apply BitVec.eq_of_toNat_eq; omega
theorem ofInt_u (x : W32) : BitVec.ofInt 32 (u x) = x := by
  unfold u; apply BitVec.eq_of_toNat_eq; simp
theorem wrap_u (x : W32) : IntKind.u32.wrap (u x) = u x := by
  have := u_range x
  unfold IntKind.wrap
  simp [IntKind.signed, IntKind.bits]
  exact Int.emod_eq_of_lt this.1 this.2
theorem bits_xor (x y : W32) : bits .xor .u32 (u x) (u y) = u (x ^^^ y) := by
  show IntKind.u32.wrap ((BitVec.ofInt 32 (u x) ^^^ BitVec.ofInt 32 (u y)).toNat : Int) = _
  rw [ofInt_u, ofInt_u]; exact wrap_u _
theorem bits_and (x y : W32) : bits .and .u32 (u x) (u y) = u (x &&& y) := by
  show IntKind.u32.wrap ((BitVec.ofInt 32 (u x) &&& BitVec.ofInt 32 (u y)).toNat : Int) = _
  rw [ofInt_u, ofInt_u]; exact wrap_u _
theorem u_half (x : W32) : u x / (2 : Int) = u (x >>> (1 : Nat)) := by
  unfold u; simp [BitVec.toNat_ushiftRight, Nat.shiftRight_succ]
theorem u_one : (1 : Int) = u 1 := rfl
theorem u_poly : (2197175160 : Int) = u poly := rfl
theorem u_neg (x : W32) : -(u x) % 4294967296 = u (-x) := by
  unfold u
  have := x.isLt
  rw [BitVec.toNat_neg]
  omega
theorem step_val (y : W32) : bits .xor .u32 (u y / 2) (bits .and .u32 2197175160 (-bits .and .u32 (u y) 1 % 4294967296)) = u (stepB y) := by
  rw [u_poly, u_half, show bits .and .u32 (u y) 1 = u (y &&& 1) from bits_and y 1, u_neg, bits_and, bits_xor]; rfl
theorem ret_u {a b : W32} (h : a = b) : Ending.returned (.int .u32 (u a)) = .returned (.int .u32 (u b)) := by rw [h]
/- Over bytes: the register goes on. -/
def byteStep (r : W32) (c : UInt8) : W32 := thr (r ^^^ BitVec.ofNat 32 c.toNat)
def reg (r : W32) (xs : List UInt8) : W32 := xs.foldl byteStep r
def more (s : W32) (xs : List UInt8) : W32 := ~~~ (reg (~~~ s) xs)
theorem u_byte (c : UInt8) : (c.toNat : Int) = u (BitVec.ofNat 32 c.toNat) := by
  have := c.toNat_lt
  unfold u; simp
theorem u_not (x : W32) : bits .xor .u32 IntKind.u32.max (u x) = u (~~~ x) := by
  rw [show IntKind.u32.max = u (BitVec.allOnes 32) from rfl, bits_xor]
  congr 1
theorem more_append (s : W32) (xs ys : List UInt8) : more s (xs ++ ys) = more (more s xs) ys := by
  unfold more reg
  rw [List.foldl_append, BitVec.not_not]
theorem reg_snoc {xs : List UInt8} {k : Nat} {c : UInt8} (h : xs[k]? = some c) (r : W32) : reg r (xs.take (k + 1)) = byteStep (reg r (xs.take k)) c := by
  unfold reg
  rw [List.take_add_one, h]
  simp [List.foldl_append]
end Go.Proofs.YtlbjbkhcnafhcaaGreat.SN
namespace Go.Proofs.YtlbjbkhcnafhcaaGreat.SN
open Go.RowKit

/- A slice of these bytes. -/
def BAt (w : World) (v : Value) (xs : List UInt8) : Prop :=
  ∃ (p : Option Addr) (cap : Nat), v = .slice p xs.length cap ∧ xs.length ≤ cap ∧ (p = none → cap = 0) ∧ cap ≤ maxLen ∧ (xs ≠ [] → ∃ a, p = some a ∧ ∀ (j : Nat) x, xs[j]? = some x → w.cell? (a.add j) = some (.int .u8 (x.toNat : Int)))
theorem cell_onB {w w' : World} {a : Addr} {v : Value} (h : w.cell? a = some v) (hb : Below w.heap.size w w') : w'.cell? a = some v :=
  (hb.cell (block_lt_of_cell h)).trans h
theorem BAt.on {w w' : World} {v : Value} {xs : List UInt8} (h : BAt w v xs) (hb : Below w.heap.size w w') : BAt w' v xs := by
  obtain ⟨p, cap, hv, hc, hn, hm, hx⟩ := h
  exact ⟨p, cap, hv, hc, hn, hm, fun hne => let ⟨a, hp, hj⟩ := hx hne; ⟨a, hp, fun j x hjx => cell_onB (hj j x hjx) hb⟩⟩
theorem xor_byte (y : W32) (c : UInt8) : bits .xor .u32 (u y) ((c.toNat : Int) % 4294967296) = u (y ^^^ BitVec.ofNat 32 c.toNat) := by
  have := c.toNat_lt
  rw [show (c.toNat : Int) % 4294967296 = (c.toNat : Int) by omega, u_byte, bits_xor]
theorem and_one (x : W32) : x &&& 1 = if x.toNat % 2 = 1 then 1 else 0 := by
  apply BitVec.eq_of_toNat_eq
  rw [BitVec.toNat_and]
  show x.toNat &&& 1 = _
  rw [Nat.and_one_is_mod]
  split <;> rename_i h
  · rw [h]; rfl
  · rw [show x.toNat % 2 = 0 by omega]; rfl
theorem step_odd {y : W32} (h : u y % 2 = 1) : bits .xor .u32 (u y / 2) 2197175160 = u (stepB y) := by
  rw [u_poly, u_half, bits_xor]
  congr 1
  unfold stepB
  rw [and_one, if_pos (by unfold u at h; omega), show -(1 : W32) = BitVec.allOnes 32 from rfl, BitVec.and_allOnes]
theorem step_even {y : W32} (h : u y % 2 = 0) : u y / 2 = u (stepB y) := by
  rw [u_half]
  congr 1
  unfold stepB
  rw [and_one, if_neg (by unfold u at h; omega), show -(0 : W32) = 0 from rfl]
  simp
theorem u_tmod (y : W32) : (u y).tmod 2 = u y % 2 := by
  have := u_range y
  exact Int.tmod_eq_emod_of_nonneg this.1
theorem test_even {y : W32} (h : u y % 2 = 0) : ((u y).tmod 2 == 1) = false := by rw [u_tmod, h]; rfl
theorem test_odd {y : W32} (h : u y % 2 = 1) : ((u y).tmod 2 == 1) = true := by rw [u_tmod, h]; rfl
end Go.Proofs.YtlbjbkhcnafhcaaGreat.SN
namespace Go.Proofs.YtlbjbkhcnafhcaaGreat.SN
open Go.RowKit

def sum (xs : List UInt8) : W32 := more 0 xs
theorem sum_nil : u (sum []) = 0 := by kernel_rfl


theorem bat_nil (w : World) : BAt w (.slice none 0 0) [] := ⟨none, 0, rfl, by simp, fun _ => rfl, by simp [maxLen], fun h => absurd rfl h⟩


theorem callsTo {f : Nat} {args : Array Value} {w : World} {k : IntKind} {a b : Int} (h : Calls Tryz.prog f args w fun e w' => e = .returned (.int k a) ∧ w' = w) (e : a = b) : Calls Tryz.prog f args w fun e w' => e = .returned (.int k b) ∧ w' = w := by rw [← e]; exact h
end Go.Proofs.YtlbjbkhcnafhcaaGreat.SN
