/-
  What value.Compare, and what it calls, return, for every two values.
  The order of values: one of three answers, its opposite the other way round, nought just for the same value, and what stands ahead of what stands ahead does so itself.
  Blocks of memory, as the walks carry them: what a block holds, what a call that turns nothing older leaves.
  Tables as plain data: values, their order, rows, their order, and canonical order: one list for all orders in which the rows stood.
  How rows, columns and tables lie in memory.
  What table.Name and the reference's Name return, for every text.
  The contracts of Go's library that this program calls, laid at its numbers.
-/
import Derived.Test.YtcidijjbcebcbaaProg
import Derived.Test.YtcidijjbcebcbaaKW02
import Derived.Handy
import Derived.Deep.DeepCutAuto
import Derived.Deep.Light
import Derived.Lib.QuietBelow
import Derived.Shelf.Slices.Turned
import Derived.Shelf.SlicesQ.Equal
import Derived.Shelf.SlicesQ.IndexFunc
import Derived.Shelf.SlicesE.Clone
namespace Go.Proofs.Ytcidijjbcebcbaa.TN
open Go.RowKit

/- What was there is as it was; blocks may have come; the tape was asked no less often. -/
structure Grew (w w' : World) : Prop where
  below : Below w.heap.size w w'
  drawn : w.drawn ≤ w'.drawn
theorem Grew.refl (w : World) : Grew w w := ⟨Below.refl _ _, Nat.le_refl _⟩
theorem Grew.trans {a b c : World} (h : Grew a b) (k : Grew b c) : Grew a c := ⟨h.below.trans (k.below.mono h.below.size), Nat.le_trans h.drawn k.drawn⟩
theorem Grew.drewN {a b : World} (h : Grew a b) (n : Nat) : Grew a (b.drewN n) := ⟨h.below.trans ⟨rfl, rfl, rfl, Nat.le_refl _, fun _ _ => rfl⟩, Nat.le_trans h.drawn (Nat.le_add_right _ n)⟩
theorem Grew.drew {a b : World} (h : Grew a b) : Grew a b.drew := ⟨h.below.drew, Nat.le_trans h.drawn (Nat.le_add_right _ 1)⟩
theorem Grew.alloc {a b : World} (h : Grew a b) (o : Obj) : Grew a (b.alloc o) := ⟨h.below.alloc h.below.size o, h.drawn⟩
def cmpI (a b : Int) : Int := if a < b then -1 else if b < a then 1 else 0
def nth8 (a0 a1 a2 a3 a4 a5 a6 a7 : Int) : Nat → Int
  | 0 => a0 | 1 => a1 | 2 => a2 | 3 => a3 | 4 => a4 | 5 => a5 | 6 => a6 | 7 => a7 | _ => 0
/- The first place from k on, of m places, at which x and y part, and how. -/
def cmpFrom (x y : Nat → Int) : Nat → Nat → Int
  | 0, _ => 0
  | m + 1, k => if x k = y k then cmpFrom x y m (k + 1) else cmpI (x k) (y k)
def Arr (w : World) (b o : Nat) (x : Nat → Int) : Prop := ∀ i, i < 8 → w.cell? ⟨b, o + i, none⟩ = some (.int .i64 (x i))

theorem hid {p : Prop} (h : p) : Hid p := h
theorem ret_int {k : IntKind} {a b : Int} (h : a = b) : Ending.returned (.int k a) = .returned (.int k b) := by rw [h]

set_option maxHeartbeats 400000 in
theorem cmpInt_any {a b : Int} {w : World} :
    Calls Try.prog 96 #[.int .i64 a, .int .i64 b] w fun e w' => e = .returned (.int .i64 (cmpI a b)) ∧ w' = w := by
  go_enter Try.func96, Try.ntmps96
  go_wp2
  all_goals
    go_ret
    refine ⟨ret_int ?_, rfl⟩
    unfold cmpI
    split <;> (try split) <;> omega
theorem cmpI_self (a : Int) : cmpI a a = 0 := by simp [cmpI]
theorem cmpI_ne {a b : Int} (h : ¬ a = b) : (cmpI a b != 0) = true := by unfold cmpI; split <;> (try split) <;> simp <;> omega

theorem lt8 {i : Nat} (h : i < 8) : i = 0 ∨ i = 1 ∨ i = 2 ∨ i = 3 ∨ i = 4 ∨ i = 5 ∨ i = 6 ∨ i = 7 := by omega
theorem below_drewN {B : Nat} {a w : World} (h : Below B a w) (n : Nat) : Below B a (w.drewN n) := h.trans ⟨rfl, rfl, rfl, Nat.le_refl _, fun _ _ => rfl⟩
theorem cmpFrom_eq {x y : Nat → Int} {k : Nat} (hk : k < 8) (h : x k = y k) : cmpFrom x y (8 - k) k = cmpFrom x y (8 - (k + 1)) (k + 1) := by
  obtain ⟨m, hm⟩ : ∃ m, 8 - k = m + 1 := ⟨8 - (k + 1), by omega⟩
  rw [hm, show 8 - (k + 1) = m from by omega]; simp [cmpFrom, h]
theorem cmpFrom_ne {x y : Nat → Int} {k : Nat} (hk : k < 8) (h : ¬ x k = y k) : cmpFrom x y (8 - k) k = cmpI (x k) (y k) := by
  obtain ⟨m, hm⟩ : ∃ m, 8 - k = m + 1 := ⟨8 - (k + 1), by omega⟩
  rw [hm]; simp [cmpFrom, h]

set_option maxHeartbeats 400000 in
theorem cmpBuckets_any {a0 a1 a2 a3 a4 a5 a6 a7 b0 b1 b2 b3 b4 b5 b6 b7 : Int} {w : World} :
    Calls Try.prog 98 #[H8 a0 a1 a2 a3 a4 a5 a6 a7, H8 b0 b1 b2 b3 b4 b5 b6 b7] w fun e w' => e = .returned (.int .i64 (cmpFrom (nth8 a0 a1 a2 a3 a4 a5 a6 a7) (nth8 b0 b1 b2 b3 b4 b5 b6 b7) 8 0)) ∧ Grew w w' := by
  generalize hx : nth8 a0 a1 a2 a3 a4 a5 a6 a7 = x
  generalize hy : nth8 b0 b1 b2 b3 b4 b5 b6 b7 = y
  have HX := (show Hid (nth8 a0 a1 a2 a3 a4 a5 a6 a7 = x) from hx)
  have HY := (show Hid (nth8 b0 b1 b2 b3 b4 b5 b6 b7 = y) from hy)
  clear hx hy
  go_enter Try.func98, Try.ntmps98
  go_wp2
  go_loopw [7] (fun i w'' => ∃ k : Nat, k ≤ 8 ∧ i = .int .i64 k ∧ Hid (cmpFrom x y (8 - k) k = cmpFrom x y 8 0) ∧ Hid (Arr w'' w.heap.size 0 x) ∧ Hid (Arr w'' (w.heap.size + 1) 0 y) ∧ Hid (Grew w w'')) (fun i _ => 8 - (intOf i).toNat)
  case atStart => 
    refine ⟨0, by omega, rfl, rfl, ?_, ?_, ?_⟩
    · intro i hi
      rw [← HX.out]
      rcases lt8 hi with rfl | rfl | rfl | rfl | rfl | rfl | rfl | rfl <;> (simp [nth8, go_sem]; done)
    · intro i hi
      rw [← HY.out]
      rcases lt8 hi with rfl | rfl | rfl | rfl | rfl | rfl | rfl | rfl <;> (simp [nth8, go_sem]; done)
    · exact ((Grew.refl _).alloc _).alloc _
  case round =>
    obtain ⟨k, hk, rfl, HC, HA, HB, HBel⟩ := hrel
    by_cases hlt : k < 8
    · have hA : wr.cell? ⟨w.heap.size, k, none⟩ = some (.int .i64 (x k)) := by have := HA.out k hlt; simpa using this
      have hB : wr.cell? ⟨w.heap.size + 1, k, none⟩ = some (.int .i64 (y k)) := by have := HB.out k hlt; simpa using this
      by_cases he : x k = y k
      · have H0 : Hid (x k = y k) := he
        rw [← he] at hB
        have hz := cmpI_self (x k)
        clear he
        go_wp2_with fail
        go_quiet ((go_at_call 96; exact Calls.quiet_of_same cmpInt_any))
        go_wp2
        go_roundw
        case rel => exact ⟨k + 1, by omega, by go_num, (cmpFrom_eq hlt H0.out).symm.trans HC.out, HA.out, HB.out, HBel.out.drewN _⟩
        case measure => simp [intOf]; omega
      · have H0 : Hid (¬ x k = y k) := he
        have hz := cmpI_ne he
        clear he
        go_wp2_with fail
        go_quiet ((go_at_call 96; exact Calls.quiet_of_same cmpInt_any))
        go_wp2
        go_ret
        exact ⟨ret_int ((cmpFrom_ne hlt H0.out).symm.trans HC.out), HBel.out.drewN _⟩
    · have h8 : k = 8 := by omega
      subst h8
      go_wp2
      go_ret
      exact ⟨ret_int (by have := HC.out; simpa [cmpFrom] using this), HBel.out⟩

/- The order of texts, by their bytes. -/
def cmpB : List UInt8 → List UInt8 → Int
  | [], [] => 0
  | [], _ :: _ => -1
  | _ :: _, [] => 1
  | a :: x, b :: y => if a < b then -1 else if b < a then 1 else cmpB x y
theorem cmpB_less (x y : List UInt8) : Op.bytesLess x y = decide (cmpB x y = -1) := by
  induction x generalizing y with
  | nil => cases y <;> simp [Op.bytesLess, cmpB]
  | cons a x ih =>
    cases y with
    | nil => simp [Op.bytesLess, cmpB]
    | cons b y =>
      simp only [Op.bytesLess, cmpB, ih]
      by_cases h1 : a < b
      · simp [h1]
      · by_cases h2 : b < a
        · have : ¬ a = b := fun e => by subst e; exact h1 h2
          simp [h1, h2, this]
        · have : a = b := UInt8.le_antisymm (UInt8.not_lt.1 h2) (UInt8.not_lt.1 h1)
          subst this; simp [h1]
theorem cmpB_zero (x y : List UInt8) : cmpB x y = 0 ↔ x = y := by
  induction x generalizing y with
  | nil => cases y <;> simp [cmpB]
  | cons a x ih =>
    cases y with
    | nil => simp [cmpB]
    | cons b y =>
      simp only [cmpB, List.cons.injEq]
      by_cases h1 : a < b
      · have : ¬ a = b := fun e => by subst e; exact UInt8.lt_irrefl _ h1
        simp [h1, this]
      · by_cases h2 : b < a
        · have : ¬ a = b := fun e => by subst e; exact h1 h2
          simp [h1, h2, this]
        · have : a = b := UInt8.le_antisymm (UInt8.not_lt.1 h2) (UInt8.not_lt.1 h1)
          subst this; simp [h1, ih]
theorem cmpB_three (x y : List UInt8) : cmpB x y = -1 ∨ cmpB x y = 0 ∨ cmpB x y = 1 := by
  induction x generalizing y with
  | nil => cases y <;> simp [cmpB]
  | cons a x ih =>
    cases y with
    | nil => simp [cmpB]
    | cons b y =>
      simp only [cmpB]
      split
      · simp
      · split
        · simp
        · exact ih y
def cmpS (s t : ByteArray) : Int := cmpB s.toList t.toList
set_option maxHeartbeats 400000 in
theorem cmpStr_any {s t : ByteArray} {w : World} :
    Calls Try.prog 97 #[.string s, .string t] w fun e w' => e = .returned (.int .i64 (cmpS s t)) ∧ w' = w := by
  go_enter Try.func97, Try.ntmps97
  go_wp2
  all_goals
    go_ret
    refine ⟨ret_int ?_, rfl⟩
    have h3 := cmpB_three s.toList t.toList
    have hl := cmpB_less s.toList t.toList
    have h0 := cmpB_zero s.toList t.toList
    unfold cmpS
    simp_all
  all_goals omega

def thn (c d : Int) : Int := if c = 0 then d else c
theorem thn_zero {c d : Int} (h : (c != 0) = false) : thn c d = d := by simp at h; simp [thn, h]
theorem thn_ne {c d : Int} (h : (c != 0) = true) : thn c d = c := by simp at h; simp [thn, h]
def cmpV (k n : Int) (s : ByteArray) (a0 a1 a2 a3 a4 a5 a6 a7 : Int) (k' n' : Int) (s' : ByteArray) (b0 b1 b2 b3 b4 b5 b6 b7 : Int) : Int :=
  thn (cmpI k k') (thn (cmpI n n') (thn (cmpS s s') (cmpFrom (nth8 a0 a1 a2 a3 a4 a5 a6 a7) (nth8 b0 b1 b2 b3 b4 b5 b6 b7) 8 0)))
set_option maxHeartbeats 400000 in
theorem compare_any {k n : Int} {s : ByteArray} {a0 a1 a2 a3 a4 a5 a6 a7 : Int} {k' n' : Int} {s' : ByteArray} {b0 b1 b2 b3 b4 b5 b6 b7 : Int} {w : World} :
    Calls Try.prog 63 #[V k n s a0 a1 a2 a3 a4 a5 a6 a7, V k' n' s' b0 b1 b2 b3 b4 b5 b6 b7] w fun e w' => e = .returned (.int .i64 (cmpV k n s a0 a1 a2 a3 a4 a5 a6 a7 k' n' s' b0 b1 b2 b3 b4 b5 b6 b7)) ∧ Grew w w' := by
  generalize hr : cmpV k n s a0 a1 a2 a3 a4 a5 a6 a7 k' n' s' b0 b1 b2 b3 b4 b5 b6 b7 = r
  unfold cmpV at hr
  cases h1 : cmpI k k' != 0
  · rw [thn_zero h1] at hr
    cases h2 : cmpI n n' != 0
    · rw [thn_zero h2] at hr
      cases h3 : cmpS s s' != 0
      · rw [thn_zero h3] at hr
        have HR : Hid _ := hr
        clear hr
        go_enter Try.func63, Try.ntmps63
        go_wp2_with (first | (go_at_call 96; refine cmpInt_any.mono ?_; rintro e w' ⟨rfl, rfl⟩) | (go_at_call 97; refine cmpStr_any.mono ?_; rintro e w' ⟨rfl, rfl⟩) | (go_at_call 98; refine cmpBuckets_any.mono ?_; rintro e w' ⟨rfl, hb⟩))
        go_ret
        exact ⟨ret_int HR.out, (((Grew.refl _).alloc _).alloc _).trans hb⟩
      · rw [thn_ne h3] at hr
        have HR : Hid _ := hr
        clear hr
        go_enter Try.func63, Try.ntmps63
        go_wp2_with (first | (go_at_call 96; refine cmpInt_any.mono ?_; rintro e w' ⟨rfl, rfl⟩) | (go_at_call 97; refine cmpStr_any.mono ?_; rintro e w' ⟨rfl, rfl⟩))
        go_ret
        exact ⟨ret_int HR.out, ((Grew.refl _).alloc _).alloc _⟩
    · rw [thn_ne h2] at hr
      have HR : Hid _ := hr
      clear hr
      go_enter Try.func63, Try.ntmps63
      go_wp2_with (first | (go_at_call 96; refine cmpInt_any.mono ?_; rintro e w' ⟨rfl, rfl⟩))
      go_ret
      exact ⟨ret_int HR.out, ((Grew.refl _).alloc _).alloc _⟩
  · rw [thn_ne h1] at hr
    have HR : Hid _ := hr
    clear hr
    go_enter Try.func63, Try.ntmps63
    go_wp2_with (first | (go_at_call 96; refine cmpInt_any.mono ?_; rintro e w' ⟨rfl, rfl⟩))
    go_ret
    exact ⟨ret_int HR.out, ((Grew.refl _).alloc _).alloc _⟩
end Go.Proofs.Ytcidijjbcebcbaa.TN
namespace Go.Proofs.Ytcidijjbcebcbaa.TN

/- The order of values is one: each of its parts is, and one part behind another. -/
def tri (x y z : Int) : Prop :=
  (x = -1 ∨ x = 0 ∨ x = 1) ∧ (y = -1 ∨ y = 0 ∨ y = 1) ∧ (z = -1 ∨ z = 0 ∨ z = 1) ∧
  (x = 0 → z = y) ∧ (y = 0 → z = x) ∧ (x = -1 → y = -1 → z = -1) ∧ (x = 1 → y = 1 → z = 1)
theorem tri_cmpI (a b c : Int) : tri (cmpI a b) (cmpI b c) (cmpI a c) := by
  unfold tri cmpI
  repeat' split
  all_goals omega
theorem tri_thn {x y z x' y' z' : Int} (h : tri x y z) (h' : tri x' y' z') : tri (thn x x') (thn y y') (thn z z') := by
  obtain ⟨hx, hy, hz, h1, h2, h3, h4⟩ := h
  obtain ⟨hx', hy', hz', h1', h2', h3', h4'⟩ := h'
  rcases hx with rfl | rfl | rfl <;> rcases hy with rfl | rfl | rfl <;> rcases hz with rfl | rfl | rfl <;>
    first
    | (exfalso; clear hx' hy' hz' h1' h2' h3' h4'; omega)
    | (simp only [thn]; refine ⟨?_, ?_, ?_, ?_, ?_, ?_, ?_⟩ <;> simp <;> omega)
theorem cmpFrom_thn (x y : Nat → Int) (m k : Nat) : cmpFrom x y (m + 1) k = thn (cmpI (x k) (y k)) (cmpFrom x y m (k + 1)) := by
  unfold thn
  simp only [cmpFrom]
  by_cases h : x k = y k
  · simp [h, cmpI]
  · rw [if_neg h, if_neg (fun e => by have := cmpI_ne h; simp [e] at this)]
theorem tri_cmpFrom (x y z : Nat → Int) (m k : Nat) : tri (cmpFrom x y m k) (cmpFrom y z m k) (cmpFrom x z m k) := by
  induction m generalizing k with
  | zero => unfold tri; simp [cmpFrom]
  | succ m ih => simp only [cmpFrom_thn]; exact tri_thn (tri_cmpI _ _ _) (ih _)
theorem cmpB_thn (a b : UInt8) (x y : List UInt8) : cmpB (a :: x) (b :: y) = thn (cmpI (a.toNat : Int) (b.toNat : Int)) (cmpB x y) := by
  simp only [cmpB, thn, cmpI, UInt8.lt_iff_toNat_lt]
  repeat' split
  all_goals first | rfl | omega
theorem tri_left {y : Int} (h : y = -1 ∨ y = 0 ∨ y = 1) : tri (-1) y (-1) := by unfold tri; omega
theorem tri_right {x : Int} (h : x = -1 ∨ x = 0 ∨ x = 1) : tri x 1 1 := by unfold tri; omega
theorem tri_mid {z : Int} (h : z = -1 ∨ z = 0 ∨ z = 1) : tri 1 (-1) z := by unfold tri; omega
theorem tri_cmpB (x y z : List UInt8) : tri (cmpB x y) (cmpB y z) (cmpB x z) := by
  induction x generalizing y z with
  | nil =>
    cases y with
    | nil => cases z <;> simp [tri, cmpB]
    | cons b y =>
      cases z with
      | nil => simp [tri, cmpB]
      | cons c z => exact tri_left (cmpB_three _ _)
  | cons a x ih =>
    cases y with
    | nil =>
      cases z with
      | nil => simp [tri, cmpB]
      | cons c z => exact tri_mid (cmpB_three _ _)
    | cons b y =>
      cases z with
      | nil => exact tri_right (cmpB_three _ _)
      | cons c z => simp only [cmpB_thn]; exact tri_thn (tri_cmpI _ _ _) (ih _ _)
theorem neg_cmpI (a b : Int) : cmpI b a = -cmpI a b := by
  unfold cmpI
  repeat' split
  all_goals omega
theorem neg_thn {x y x' y' : Int} (h : y = -x) (h' : y' = -x') : thn y y' = -thn x x' := by
  unfold thn
  repeat' split
  all_goals omega
theorem neg_cmpFrom (x y : Nat → Int) (m k : Nat) : cmpFrom y x m k = -cmpFrom x y m k := by
  induction m generalizing k with
  | zero => simp [cmpFrom]
  | succ m ih => simp only [cmpFrom_thn]; exact neg_thn (neg_cmpI _ _) (ih _)
theorem neg_cmpB (x y : List UInt8) : cmpB y x = -cmpB x y := by
  induction x generalizing y with
  | nil => cases y <;> simp [cmpB]
  | cons a x ih =>
    cases y with
    | nil => simp [cmpB]
    | cons b y => simp only [cmpB_thn]; exact neg_thn (neg_cmpI _ _) (ih _)
section
variable (k n : Int) (s : ByteArray) (a0 a1 a2 a3 a4 a5 a6 a7 : Int) (k' n' : Int) (s' : ByteArray) (b0 b1 b2 b3 b4 b5 b6 b7 : Int) (k'' n'' : Int) (s'' : ByteArray) (c0 c1 c2 c3 c4 c5 c6 c7 : Int)
theorem tri_cmpV : tri (cmpV k n s a0 a1 a2 a3 a4 a5 a6 a7 k' n' s' b0 b1 b2 b3 b4 b5 b6 b7) (cmpV k' n' s' b0 b1 b2 b3 b4 b5 b6 b7 k'' n'' s'' c0 c1 c2 c3 c4 c5 c6 c7) (cmpV k n s a0 a1 a2 a3 a4 a5 a6 a7 k'' n'' s'' c0 c1 c2 c3 c4 c5 c6 c7) :=
  tri_thn (tri_cmpI _ _ _) (tri_thn (tri_cmpI _ _ _) (tri_thn (tri_cmpB _ _ _) (tri_cmpFrom _ _ _ _ _)))
theorem neg_cmpV : cmpV k' n' s' b0 b1 b2 b3 b4 b5 b6 b7 k n s a0 a1 a2 a3 a4 a5 a6 a7 = -cmpV k n s a0 a1 a2 a3 a4 a5 a6 a7 k' n' s' b0 b1 b2 b3 b4 b5 b6 b7 :=
  neg_thn (neg_cmpI _ _) (neg_thn (neg_cmpI _ _) (neg_thn (neg_cmpB _ _) (neg_cmpFrom _ _ _ _)))
theorem cmpI_zero (a b : Int) : cmpI a b = 0 ↔ a = b := by
  unfold cmpI
  repeat' split
  all_goals omega
theorem thn_zero_iff (x y : Int) : thn x y = 0 ↔ x = 0 ∧ y = 0 := by
  unfold thn
  split <;> omega
theorem eqV_cmpV : eqV k n s a0 a1 a2 a3 a4 a5 a6 a7 k' n' s' b0 b1 b2 b3 b4 b5 b6 b7 = (cmpV k n s a0 a1 a2 a3 a4 a5 a6 a7 k' n' s' b0 b1 b2 b3 b4 b5 b6 b7 == 0) := by
  rw [Bool.eq_iff_iff]
  unfold cmpV eqV eqH cmpS
  simp only [cmpFrom_thn]
  simp only [Bool.and_eq_true, decide_eq_true_eq, beq_iff_eq, thn_zero_iff, cmpI_zero, cmpB_zero, cmpFrom, nth8, and_true]
  constructor
  · rintro ⟨⟨rfl, rfl, rfl⟩, h⟩; exact ⟨rfl, rfl, rfl, h⟩
  · rintro ⟨h1, h2, h3, h⟩; exact ⟨⟨h1, h2, bytes_toList_inj h3⟩, h⟩
end
end Go.Proofs.Ytcidijjbcebcbaa.TN
namespace Go.Proofs.Ytcidijjbcebcbaa.TN
open Go.RowKit Go.Sort

theorem ret_bool {a b : Bool} (h : a = b) : Ending.returned (.bool a) = .returned (.bool b) := by rw [h]
theorem below_on {W w1 w2 : World} (h : Below W.heap.size W w1) (h2 : Below w1.heap.size w1 w2) : Below W.heap.size W w2 := h.trans (h2.mono h.size)
theorem lt_of_block {w : World} {b : Nat} {o : Obj} (h : w.heap[b]? = some o) : b < w.heap.size := (Array.getElem?_eq_some_iff.1 h).1
theorem block_on {w w' : World} {b : Nat} {o : Obj} (h : w.heap[b]? = some o) (hb : Below w.heap.size w w') : w'.heap[b]? = some o := (hb.block b (lt_of_block h)).trans h
theorem block_cell {w : World} {b : Nat} {xs : Array Value} {t : TypeId} {fz : Nat × Nat} (h : w.heap[b]? = some (.cells xs t fz)) (o : Nat) : w.cell? ⟨b, o, none⟩ = xs[o]? := by
  simp [World.cell?, h]
theorem alloc_block (w : World) (o : Obj) : (w.alloc o).heap[w.heap.size]? = some o := by
  show (w.heap.push o)[w.heap.size]? = _
  simp
end Go.Proofs.Ytcidijjbcebcbaa.TN
namespace Go.Proofs.Ytcidijjbcebcbaa.TN
open Go.RowKit

structure Vl where
  k : Int
  n : Int
  s : ByteArray
  h0 : Int
  h1 : Int
  h2 : Int
  h3 : Int
  h4 : Int
  h5 : Int
  h6 : Int
  h7 : Int
  small : s.size ≤ maxLen
abbrev Vl.val (v : Vl) : Value := V v.k v.n v.s v.h0 v.h1 v.h2 v.h3 v.h4 v.h5 v.h6 v.h7
def Vl.cells (v : Vl) : List Value := [.int .i64 v.k, .int .i64 v.n, .string v.s, .int .i64 v.h0, .int .i64 v.h1, .int .i64 v.h2, .int .i64 v.h3, .int .i64 v.h4, .int .i64 v.h5, .int .i64 v.h6, .int .i64 v.h7]
def cmpL (x y : Vl) : Int := cmpV x.k x.n x.s x.h0 x.h1 x.h2 x.h3 x.h4 x.h5 x.h6 x.h7 y.k y.n y.s y.h0 y.h1 y.h2 y.h3 y.h4 y.h5 y.h6 y.h7
def validL (x : Vl) : Bool := validB x.k x.n x.s x.h0 x.h1 x.h2 x.h3 x.h4 x.h5 x.h6 x.h7
def eqL (x y : Vl) : Bool := eqV x.k x.n x.s x.h0 x.h1 x.h2 x.h3 x.h4 x.h5 x.h6 x.h7 y.k y.n y.s y.h0 y.h1 y.h2 y.h3 y.h4 y.h5 y.h6 y.h7

theorem eqL_iff (x y : Vl) : eqL x y = true ↔ x = y := by
  cases x; cases y
  simp only [eqL, eqV, eqH, Bool.and_eq_true, decide_eq_true_eq, Vl.mk.injEq]
  constructor
  · rintro ⟨⟨h1, h2, h3⟩, h⟩; exact ⟨h1, h2, h3, h⟩
  · rintro ⟨h1, h2, h3, h⟩; exact ⟨⟨h1, h2, h3⟩, h⟩
theorem tri_cmpL (x y z : Vl) : tri (cmpL x y) (cmpL y z) (cmpL x z) := tri_cmpV ..
theorem neg_cmpL (x y : Vl) : cmpL y x = -cmpL x y := neg_cmpV ..
theorem cmpL_zero (x y : Vl) : cmpL x y = 0 ↔ x = y := by
  rw [← eqL_iff]
  unfold eqL cmpL
  rw [eqV_cmpV]; simp
theorem eqL_cmpL (x y : Vl) : eqL x y = (cmpL x y == 0) := by unfold eqL cmpL; rw [eqV_cmpV]
instance : DecidableEq Vl := fun x y => decidable_of_iff _ (eqL_iff x y)

abbrev Rw := List Vl
def cmpR : Rw → Rw → Int
  | [], [] => 0
  | [], _ :: _ => -1
  | _ :: _, [] => 1
  | a :: x, b :: y => thn (cmpL a b) (cmpR x y)
theorem three_of_tri {x y z : Int} (h : tri x y z) : x = -1 ∨ x = 0 ∨ x = 1 := h.1
theorem cmpR_three (x y : Rw) : cmpR x y = -1 ∨ cmpR x y = 0 ∨ cmpR x y = 1 := by
  induction x generalizing y with
  | nil => cases y <;> simp [cmpR]
  | cons a x ih =>
    cases y with
    | nil => simp [cmpR]
    | cons b y =>
      have h1 := three_of_tri (tri_cmpL a b b)
      have h2 := ih y
      simp only [cmpR, thn]; split <;> omega
theorem tri_cmpR (x y z : Rw) : tri (cmpR x y) (cmpR y z) (cmpR x z) := by
  induction x generalizing y z with
  | nil =>
    cases y with
    | nil => cases z <;> simp [tri, cmpR]
    | cons b y =>
      cases z with
      | nil => simp [tri, cmpR]
      | cons c z => exact tri_left (cmpR_three _ _)
  | cons a x ih =>
    cases y with
    | nil =>
      cases z with
      | nil => simp [tri, cmpR]
      | cons c z => exact tri_mid (cmpR_three _ _)
    | cons b y =>
      cases z with
      | nil => exact tri_right (cmpR_three _ _)
      | cons c z => exact tri_thn (tri_cmpL _ _ _) (ih _ _)
theorem neg_cmpR (x y : Rw) : cmpR y x = -cmpR x y := by
  induction x generalizing y with
  | nil => cases y <;> simp [cmpR]
  | cons a x ih =>
    cases y with
    | nil => simp [cmpR]
    | cons b y => exact neg_thn (neg_cmpL _ _) (ih _)
theorem cmpR_zero (x y : Rw) : cmpR x y = 0 ↔ x = y := by
  induction x generalizing y with
  | nil => cases y <;> simp [cmpR]
  | cons a x ih =>
    cases y with
    | nil => simp [cmpR]
    | cons b y => simp only [cmpR, thn_zero_iff, cmpL_zero, ih, List.cons.injEq]

/- Canonical order. -/
def sortR (l : List Rw) : List Rw := l.mergeSort fun x y => decide (cmpR x y ≤ 0)
def upR (l : List Rw) : Prop := l.Pairwise fun x y => cmpR x y ≤ 0
theorem cmpR_trans {x y z : Rw} (h1 : cmpR x y ≤ 0) (h2 : cmpR y z ≤ 0) : cmpR x z ≤ 0 := by
  obtain ⟨a, b, c, d, e, f, g⟩ := tri_cmpR x y z
  omega
theorem sortR_perm (l : List Rw) : (sortR l).Perm l := List.mergeSort_perm _ _
theorem sortR_up (l : List Rw) : upR (sortR l) := by
  have := List.pairwise_mergeSort (le := fun x y => decide (cmpR x y ≤ 0)) (fun a b c h1 h2 => by simp at *; exact cmpR_trans h1 h2) (fun a b => by have := neg_cmpR a b; simp; omega) l
  exact this.imp fun h => by simpa using h
theorem up_unique {l m : List Rw} (hl : upR l) (hm : upR m) (hp : l.Perm m) : l = m :=
  List.Perm.eq_of_pairwise (le := fun x y => cmpR x y ≤ 0) (fun a b _ _ h1 h2 => (cmpR_zero a b).1 (by have := neg_cmpR a b; omega)) hl hm hp
theorem sortR_of {l m : List Rw} (hl : upR l) (hp : l.Perm m) : l = sortR m := up_unique hl (sortR_up m) (hp.trans (sortR_perm m).symm)
theorem sortR_perm_eq {l m : List Rw} (hp : l.Perm m) : sortR l = sortR m := sortR_of (sortR_up l) ((sortR_perm l).trans hp)
theorem sortR_length (l : List Rw) : (sortR l).length = l.length := (sortR_perm l).length_eq
theorem sortR_sortR (l : List Rw) : sortR (sortR l) = sortR l := sortR_perm_eq (sortR_perm l)

/- Columns. -/
structure Cl where
  nm : ByteArray
  kd : Int
  small : nm.size ≤ maxLen
def Cl.cells (c : Cl) : List Value := [.string c.nm, .int .i64 c.kd]
def eqC (x y : Cl) : Bool := decide (x.nm = y.nm ∧ x.kd = y.kd)
theorem eqC_iff (x y : Cl) : eqC x y = true ↔ x = y := by
  cases x; cases y; simp [eqC]
instance : DecidableEq Cl := fun x y => decidable_of_iff _ (eqC_iff x y)
end Go.Proofs.Ytcidijjbcebcbaa.TN
namespace Go.Proofs.Ytcidijjbcebcbaa.TN
open Go.RowKit Go.Sort

/- Cells one behind the other. -/
def CellsAt (w : World) (b o : Nat) (xs : List Value) : Prop := ∀ (j : Nat) u, xs[j]? = some u → w.cell? ⟨b, o + j, none⟩ = some u
theorem CellsAt.on {w w' : World} {b o : Nat} {xs : List Value} (h : CellsAt w b o xs) (hb : Below w.heap.size w w') : CellsAt w' b o xs := fun j u hj => by
  have := h j u hj
  exact (hb.cell (p := ⟨b, o + j, none⟩) (block_lt_of_cell this)).trans this
/- How many bytes an element of k cells takes, for the three kinds of slices here. -/
def bsz (k : Nat) : Nat := if k = 11 then 96 else 24
/- A slice of elements of k cells each, in a block of which Q holds. -/
def SlAt {α : Type} (Q : Nat → Prop) (enc : α → List Value) (k : Nat) (w : World) (v : Value) (xs : List α) : Prop :=
  ∃ (p : Option Addr) (cap : Nat), v = .slice p xs.length cap ∧ (xs.length ≤ cap ∧ (p = none → cap = 0)) ∧ xs.length ≤ maxLen ∧ (xs ≠ [] → ∃ b o, p = some ⟨b, o, none⟩ ∧ (Q b ∧ xs.length * bsz k ≤ 140737488355328) ∧ ∀ (j : Nat) x, xs[j]? = some x → CellsAt w b (o + j * k) (enc x))
theorem SlAt.on {α : Type} {Q : Nat → Prop} {enc : α → List Value} {k : Nat} {w w' : World} {v : Value} {xs : List α} (h : SlAt Q enc k w v xs) (hb : Below w.heap.size w w') : SlAt Q enc k w' v xs := by
  obtain ⟨p, cap, hv, hc, hm, hx⟩ := h
  exact ⟨p, cap, hv, hc, hm, fun hne => let ⟨b, o, hp, hQ, hj⟩ := hx hne; ⟨b, o, hp, hQ, fun j x hjx => (hj j x hjx).on hb⟩⟩
theorem SlAt.imp {α : Type} {Q Q' : Nat → Prop} {enc : α → List Value} {k : Nat} {w : World} {v : Value} {xs : List α} (h : SlAt Q enc k w v xs) (hq : ∀ b, Q b → Q' b) : SlAt Q' enc k w v xs := by
  obtain ⟨p, cap, hv, hc, hm, hx⟩ := h
  exact ⟨p, cap, hv, hc, hm, fun hne => let ⟨b, o, hp, hQ, hj⟩ := hx hne; ⟨b, o, hp, ⟨hq b hQ.1, hQ.2⟩, hj⟩⟩
def any (_ : Nat) : Prop := True
def RowIn (Q : Nat → Prop) (w : World) (v : Value) (r : Rw) : Prop := SlAt Q Vl.cells 11 w v r
abbrev RowAt := RowIn any
theorem RowIn.on {Q : Nat → Prop} {w w' : World} {v : Value} {r : Rw} (h : RowIn Q w v r) (hb : Below w.heap.size w w') : RowIn Q w' v r := SlAt.on h hb
theorem RowIn.imp {Q Q' : Nat → Prop} {w : World} {v : Value} {r : Rw} (h : RowIn Q w v r) (hq : ∀ b, Q b → Q' b) : RowIn Q' w v r := SlAt.imp h hq
theorem RowIn.at {Q : Nat → Prop} {w : World} {v : Value} {r : Rw} (h : RowIn Q w v r) : RowAt w v r := h.imp fun _ _ => trivial
def ColsAt (w : World) (v : Value) (cs : List Cl) : Prop := SlAt any Cl.cells 2 w v cs
theorem ColsAt.on {w w' : World} {v : Value} {cs : List Cl} (h : ColsAt w v cs) (hb : Below w.heap.size w w') : ColsAt w' v cs := SlAt.on h hb
/- One header a row. -/
def HeadsIn (Q : Nat → Prop) (w : World) (hs : List Value) (rs : List Rw) : Prop := hs.length = rs.length ∧ ∀ (j : Nat) h r, hs[j]? = some h → rs[j]? = some r → RowIn Q w h r
theorem HeadsIn.on {Q : Nat → Prop} {w w' : World} {hs : List Value} {rs : List Rw} (h : HeadsIn Q w hs rs) (hb : Below w.heap.size w w') : HeadsIn Q w' hs rs := ⟨h.1, fun j x r h1 h2 => (h.2 j x r h1 h2).on hb⟩
def one (v : Value) : List Value := [v]
def RowsAt (w : World) (v : Value) (rs : List Rw) : Prop := ∃ hs, SlAt any one 1 w v hs ∧ HeadsIn any w hs rs
theorem RowsAt.on {w w' : World} {v : Value} {rs : List Rw} (h : RowsAt w v rs) (hb : Below w.heap.size w w') : RowsAt w' v rs := let ⟨hs, h1, h2⟩ := h; ⟨hs, h1.on hb, h2.on hb⟩
def TabAt (w : World) (v : Value) (cs : List Cl) (rs : List Rw) : Prop := ∃ c r, v = .agg #[c, r] ∧ ColsAt w c cs ∧ RowsAt w r rs
theorem TabAt.on {w w' : World} {v : Value} {cs : List Cl} {rs : List Rw} (h : TabAt w v cs rs) (hb : Below w.heap.size w w') : TabAt w' v cs rs := let ⟨c, r, h0, h1, h2⟩ := h; ⟨c, r, h0, h1.on hb, h2.on hb⟩

/- The same, all of it in blocks of which Q holds. -/
def TabIn (Q : Nat → Prop) (w : World) (v : Value) (cs : List Cl) (rs : List Rw) : Prop := ∃ c r, v = .agg #[c, r] ∧ SlAt Q Cl.cells 2 w c cs ∧ ∃ hs, SlAt Q one 1 w r hs ∧ HeadsIn Q w hs rs
theorem HeadsIn.imp {Q Q' : Nat → Prop} {w : World} {hs : List Value} {rs : List Rw} (h : HeadsIn Q w hs rs) (hq : ∀ b, Q b → Q' b) : HeadsIn Q' w hs rs := ⟨h.1, fun j x r h1 h2 => (h.2 j x r h1 h2).imp hq⟩
theorem TabIn.on {Q : Nat → Prop} {w w' : World} {v : Value} {cs : List Cl} {rs : List Rw} (h : TabIn Q w v cs rs) (hb : Below w.heap.size w w') : TabIn Q w' v cs rs := let ⟨c, r, h0, h1, hs, h2, h3⟩ := h; ⟨c, r, h0, h1.on hb, hs, h2.on hb, h3.on hb⟩
theorem TabIn.imp {Q Q' : Nat → Prop} {w : World} {v : Value} {cs : List Cl} {rs : List Rw} (h : TabIn Q w v cs rs) (hq : ∀ b, Q b → Q' b) : TabIn Q' w v cs rs := let ⟨c, r, h0, h1, hs, h2, h3⟩ := h; ⟨c, r, h0, h1.imp hq, hs, h2.imp hq, h3.imp hq⟩
theorem TabIn.at {Q : Nat → Prop} {w : World} {v : Value} {cs : List Cl} {rs : List Rw} (h : TabIn Q w v cs rs) : TabAt w v cs rs := let ⟨c, r, h0, h1, hs, h2, h3⟩ := h.imp (Q' := any) (fun _ _ => trivial); ⟨c, r, h0, h1, hs, h2, h3⟩

/- What a walk wants of one element. -/
theorem cells_at {w : World} {b o : Nat} {xs : List Value} (h : CellsAt w b o xs) (i : Nat) {u : Value} (hu : xs[i]? = some u) : w.cell? ⟨b, o + i, none⟩ = some u := h i u hu
theorem col_cells {w : World} {b o : Nat} {c : Cl} (h : CellsAt w b o c.cells) : w.cell? ⟨b, o, none⟩ = some (.string c.nm) ∧ w.cell? ⟨b, o + 1, none⟩ = some (.int .i64 c.kd) := ⟨h 0 _ rfl, h 1 _ rfl⟩
structure ValCells (w : World) (b o : Nat) (v : Vl) : Prop where
  c0 : w.cell? ⟨b, o, none⟩ = some (.int .i64 v.k)
  c1 : w.cell? ⟨b, o + 1, none⟩ = some (.int .i64 v.n)
  c2 : w.cell? ⟨b, o + 2, none⟩ = some (.string v.s)
  c3 : w.cell? ⟨b, o + 3, none⟩ = some (.int .i64 v.h0)
  c4 : w.cell? ⟨b, o + 4, none⟩ = some (.int .i64 v.h1)
  c5 : w.cell? ⟨b, o + 5, none⟩ = some (.int .i64 v.h2)
  c6 : w.cell? ⟨b, o + 6, none⟩ = some (.int .i64 v.h3)
  c7 : w.cell? ⟨b, o + 7, none⟩ = some (.int .i64 v.h4)
  c8 : w.cell? ⟨b, o + 8, none⟩ = some (.int .i64 v.h5)
  c9 : w.cell? ⟨b, o + 9, none⟩ = some (.int .i64 v.h6)
  c10 : w.cell? ⟨b, o + 10, none⟩ = some (.int .i64 v.h7)
theorem val_cells {w : World} {b o : Nat} {v : Vl} (h : CellsAt w b o v.cells) : ValCells w b o v :=
  ⟨h 0 _ rfl, h 1 _ rfl, h 2 _ rfl, h 3 _ rfl, h 4 _ rfl, h 5 _ rfl, h 6 _ rfl, h 7 _ rfl, h 8 _ rfl, h 9 _ rfl, h 10 _ rfl⟩
end Go.Proofs.Ytcidijjbcebcbaa.TN
namespace Go.Proofs.Ytcidijjbcebcbaa.TN
open Go.RowKit Go.Sort

def letB (c : UInt8) : Bool := decide (97 ≤ c.toNat) && decide (c.toNat ≤ 122)
def nmB (c : UInt8) : Bool := letB c || (decide (48 ≤ c.toNat) && decide (c.toNat ≤ 57)) || decide (c.toNat = 95) || decide (c.toNat = 35)
def nameB (s : ByteArray) : Bool := decide (1 ≤ s.size ∧ s.size ≤ 24) && (letB (s.data.getD 0 0) && s.data.toList.all nmB)

set_option maxHeartbeats 400000 in
theorem isLetter_any {c : UInt8} {w : World} :
    Calls Try.prog 140 #[.int .u8 (c.toNat : Int)] w fun e w' => e = .returned (.bool (letB c)) ∧ w' = w := by
  generalize hr : letB c = r
  have HR := hid hr
  clear hr
  go_enter Try.func140, Try.ntmps140
  go_wp2
  all_goals
    go_ret
    refine ⟨ret_bool ?_, rfl⟩
    rw [← HR.out]
    unfold letB
    rw [Bool.eq_iff_iff]
    simp only [Bool.and_eq_true, decide_eq_true_eq, Bool.false_eq_true, false_iff]
    omega
theorem nmB_is {c : UInt8} {r : Bool} (h : (letB c || (decide (48 ≤ c.toNat) && decide (c.toNat ≤ 57)) || decide (c.toNat = 95) || decide (c.toNat = 35)) = r) : nmB c = r := h
set_option maxHeartbeats 400000 in
theorem isNameByte_any {c : UInt8} {w : World} :
    Calls Try.prog 141 #[.int .u8 (c.toNat : Int)] w fun e w' => e = .returned (.bool (nmB c)) ∧ w' = w := by
  generalize hr : nmB c = r
  have HR := hid hr
  clear hr
  go_enter Try.func141, Try.ntmps141
  go_wp2_with (go_at_call 140; refine isLetter_any.mono ?_; rintro e w' ⟨rfl, rfl⟩)
  all_goals
    go_ret
    refine ⟨ret_bool ?_, rfl⟩
    rw [← HR.out]
    unfold nmB
    rw [Bool.eq_iff_iff]
    simp only [Bool.or_eq_true, Bool.and_eq_true, decide_eq_true_eq, true_iff, beq_iff_eq]
    first | omega | (simp [*]; done) | (simp [*]; omega)
theorem all_upto {s : ByteArray} : s.data.toList.all nmB = true ↔ ∀ i (h : i < s.size), nmB s[i] = true := by
  rw [List.all_eq_true]
  constructor
  · intro h i hi
    exact h _ (Array.mem_toList_iff.2 (Array.getElem_mem (by exact hi)))
  · intro h c hc
    obtain ⟨i, hi, rfl⟩ := List.mem_iff_getElem.1 hc
    exact h i (by simpa using hi)
theorem nameB_first {s : ByteArray} (h : 0 < s.size) : s.data.getD 0 0 = s[0] := by
  have h' : 0 < s.data.size := h
  rw [← Array.getElem_eq_getD (h := h')]; rfl
theorem name_no {s : ByteArray} (h : ¬ (1 ≤ s.size ∧ s.size ≤ 24)) : nameB s = false := by simp [nameB, h]
theorem name_first {s : ByteArray} (h : 0 < s.size) (hl : letB s[0] = false) : nameB s = false := by simp [nameB, nameB_first h, hl]
theorem name_byte {s : ByteArray} {i : Nat} (h : i < s.size) (hl : nmB s[i] = false) : nameB s = false := by
  unfold nameB
  have : s.data.toList.all nmB = false := by
    rw [Bool.eq_false_iff]; intro hh; rw [all_upto] at hh; rw [hh i h] at hl; cases hl
  rw [this]; simp
theorem name_yes {s : ByteArray} (h : 1 ≤ s.size ∧ s.size ≤ 24) (hl : letB s[0] = true) (ha : ∀ i (h : i < s.size), nmB s[i] = true) : nameB s = true := by
  unfold nameB
  rw [nameB_first h.1, hl, all_upto.2 ha]; simp [h]
set_option maxHeartbeats 400000 in
theorem name_any {s : ByteArray} {w : World} (hs : s.size ≤ maxLen) :
    Calls Try.prog 121 #[.string s] w fun e w' => e = .returned (.bool (nameB s)) ∧ w' = w := by
  unfold maxLen at hs
  generalize hr : nameB s = r
  have HR := hid hr
  clear hr
  by_cases h1 : s.size < 1
  · have g1 : (s.size : Int) < 1 := by omega
    go_enter Try.func121, Try.ntmps121
    go_wp2
    go_ret
    exact ⟨ret_bool ((name_no (by omega)).symm.trans HR.out), rfl⟩
  · have g1 : ¬ (s.size : Int) < 1 := by omega
    by_cases h2 : 24 < s.size
    · have g2 : (24 : Int) < (s.size : Int) := by omega
      go_enter Try.func121, Try.ntmps121
      go_wp2
      go_ret
      exact ⟨ret_bool ((name_no (by omega)).symm.trans HR.out), rfl⟩
    · have g2 : ¬ (24 : Int) < (s.size : Int) := by omega
      have h0 : 0 < s.size := by omega
      cases hl : letB s[0] with
      | false =>
        go_enter Try.func121, Try.ntmps121
        go_wp2_with (go_at_call 140; refine isLetter_any.mono ?_; rintro e w' ⟨rfl, rfl⟩)
        go_ret
        exact ⟨ret_bool ((name_first (by omega) hl).symm.trans HR.out), rfl⟩
      | true =>
        go_enter Try.func121, Try.ntmps121
        go_wp2_with (go_at_call 140; refine isLetter_any.mono ?_; rintro e w' ⟨rfl, rfl⟩)
        go_loopw [20] (fun i wr => ∃ k : Nat, k ≤ s.size ∧ i = .int .i64 k ∧ wr = w' ∧ Hid (∀ i (h : i < s.size), i < k → nmB s[i] = true)) (fun i _ => s.size - (intOf i).toNat)
        case atStart => exact ⟨0, by omega, rfl, rfl, fun i _ h => absurd h (Nat.not_lt_zero _)⟩
        case round =>
          obtain ⟨k, hk, rfl, rfl, HA⟩ := hrel
          by_cases hlt : k < s.size
          · cases hb : nmB s[k] with
            | true =>
              go_wp2_with (go_at_call 141; refine isNameByte_any.mono ?_; rintro e w' ⟨rfl, rfl⟩)
              go_roundw
              case rel =>
                refine ⟨k + 1, by omega, by go_num, by trivial, fun i h hi => ?_⟩
                by_cases e : i = k
                · subst e; exact hb
                · exact HA.out i h (by omega)
              case measure => simp [intOf]; omega
            | false =>
              go_wp2_with (go_at_call 141; refine isNameByte_any.mono ?_; rintro e w' ⟨rfl, rfl⟩)
              go_ret
              exact ⟨ret_bool ((name_byte hlt hb).symm.trans HR.out), rfl⟩
          · have hks : k = s.size := by omega
            subst hks
            go_wp2
            go_ret
            exact ⟨ret_bool ((name_yes (by omega) hl (fun i h => HA.out i h h)).symm.trans HR.out), rfl⟩
set_option maxHeartbeats 400000 in
theorem rname_any {s : ByteArray} {w : World} (hs : s.size ≤ maxLen) :
    Calls Try.prog 99 #[.string s] w fun e w' => e = .returned (.bool (nameB s)) ∧ w' = w := by
  unfold maxLen at hs
  generalize hr : nameB s = r
  have HR := hid hr
  clear hr
  by_cases h1 : s.size < 1
  · have g1 : (s.size : Int) < 1 := by omega
    go_enter Try.func99, Try.ntmps99
    go_wp2
    go_ret
    exact ⟨ret_bool ((name_no (by omega)).symm.trans HR.out), rfl⟩
  · have g1 : ¬ (s.size : Int) < 1 := by omega
    by_cases h2 : 24 < s.size
    · have g2 : (24 : Int) < (s.size : Int) := by omega
      go_enter Try.func99, Try.ntmps99
      go_wp2
      go_ret
      exact ⟨ret_bool ((name_no (by omega)).symm.trans HR.out), rfl⟩
    · have g2 : ¬ (24 : Int) < (s.size : Int) := by omega
      have h0 : 0 < s.size := by omega
      cases hl : letB s[0] with
      | false =>
        have hl' := hl
        unfold letB at hl'
        have hlow : (s[0].toNat : Int) < 97 ∨ (¬ (s[0].toNat : Int) < 97 ∧ (122 : Int) < (s[0].toNat : Int)) := by simp at hl'; omega
        clear hl'
        have HL := hid hl
        clear hl
        rcases hlow with h3 | ⟨h3, h4⟩
        all_goals
          go_enter Try.func99, Try.ntmps99
          go_wp2
          go_ret
          exact ⟨ret_bool ((name_first (by omega) HL.out).symm.trans HR.out), rfl⟩
      | true =>
        have hl' := hl
        unfold letB at hl'
        have h3 : ¬ (s[0].toNat : Int) < 97 := by simp at hl'; omega
        have h4 : ¬ (122 : Int) < (s[0].toNat : Int) := by simp at hl'; omega
        clear hl'
        have HL := hid hl
        clear hl
        go_enter Try.func99, Try.ntmps99
        go_wp2
        go_loopw [3] (fun i wr => ∃ k : Nat, k ≤ s.size ∧ i = .int .i64 k ∧ wr = w ∧ Hid (∀ i (h : i < s.size), i < k → nmB s[i] = true)) (fun i _ => s.size - (intOf i).toNat)
        case atStart => exact ⟨0, by omega, rfl, rfl, fun i _ h => absurd h (Nat.not_lt_zero _)⟩
        case round =>
          obtain ⟨k, hk, rfl, rfl, HA⟩ := hrel
          by_cases hlt : k < s.size
          · cases hb : nmB s[k] with
            | true =>
              have hb' := hb
              unfold nmB letB at hb'
              simp only [Bool.or_eq_true, Bool.and_eq_true, decide_eq_true_eq] at hb'
              have HB := hid hb
              clear hb
              have hq : ((97 : Int) ≤ (s[k].toNat : Int) ∧ (s[k].toNat : Int) ≤ 122) ∨ ((s[k].toNat : Int) < 97 ∧ (48 : Int) ≤ (s[k].toNat : Int) ∧ (s[k].toNat : Int) ≤ 57) ∨ (s[k].toNat : Int) = 95 ∨ (s[k].toNat : Int) = 35 := by omega
              clear hb'
              rcases hq with ⟨q1, q2⟩ | ⟨q1, q2, q3⟩ | q1 | q1
              all_goals
                go_wp2
                go_roundw
                case rel =>
                  refine ⟨k + 1, by omega, by go_num, by trivial, fun i h hi => ?_⟩
                  by_cases e : i = k
                  · subst e; exact HB.out
                  · exact HA.out i h (by omega)
                case measure => simp [intOf]; omega
            | false =>
              have hb' := hb
              unfold nmB letB at hb'
              simp only [Bool.or_eq_false_iff, Bool.and_eq_false_iff, decide_eq_false_iff_not] at hb'
              have HB := hid hb
              clear hb
              have q5 : ((s[k].toNat : Int) == 95) = false := by rw [Bool.eq_false_iff]; intro e; have := beq_iff_eq.1 e; omega
              have q6 : ((s[k].toNat : Int) == 35) = false := by rw [Bool.eq_false_iff]; intro e; have := beq_iff_eq.1 e; omega
              have hq : (decide ((s[k].toNat : Int) ≤ 122) = false ∧ decide ((s[k].toNat : Int) ≤ 57) = false ∧ decide ((97 : Int) ≤ (s[k].toNat : Int)) = true ∧ decide ((48 : Int) ≤ (s[k].toNat : Int)) = true) ∨ (decide ((97 : Int) ≤ (s[k].toNat : Int)) = false ∧ decide ((48 : Int) ≤ (s[k].toNat : Int)) = true ∧ decide ((s[k].toNat : Int) ≤ 57) = false) ∨ (decide ((97 : Int) ≤ (s[k].toNat : Int)) = false ∧ decide ((48 : Int) ≤ (s[k].toNat : Int)) = false) := by simp only [decide_eq_false_iff_not, decide_eq_true_eq]; omega
              clear hb'
              rcases hq with ⟨q1, q2, q3, q4⟩ | ⟨q1, q2, q3⟩ | ⟨q1, q2⟩
              all_goals
                go_wp2
                go_ret
                exact ⟨ret_bool ((name_byte hlt HB.out).symm.trans HR.out), rfl⟩
          · have hks : k = s.size := by omega
            subst hks
            go_wp2
            go_ret
            exact ⟨ret_bool ((name_yes (by omega) HL.out (fun i h => HA.out i h h)).symm.trans HR.out), rfl⟩
end Go.Proofs.Ytcidijjbcebcbaa.TN
namespace Go.Proofs
open Go.Shelf
def Try.cloneC_ren : Go.Shelf.Ren := ⟨fun | 41 => 50 | n => n, fun | 22 => 25 | 23 => 61 | 4 => 4 | n => n, fun | n => n⟩
theorem Try.cloneC : Go.Proofs.SlLaysE0.n41 Try.prog Try.cloneC_ren := {
  mixed := by kernel_rfl
  f41 := ⟨Try.f50.name, by decide, Try.func50.trans (congrArg some (by kernel_rfl))⟩
  t4 := Try.underlying4
  a4 := Try.isAgg4
  z4 := Try.sizeOf4
  v4 := Try.zeroValue4
  t22 := Try.underlying25
  a22 := Try.isAgg25
  z22 := Try.sizeOf25
  v22 := Try.zeroValue25 }
def Try.cloneV_ren : Go.Shelf.Ren := ⟨fun | 41 => 49 | n => n, fun | 22 => 33 | 23 => 39 | 4 => 4 | n => n, fun | n => n⟩
theorem Try.cloneV : Go.Proofs.SlLaysE0.n41 Try.prog Try.cloneV_ren := {
  mixed := by kernel_rfl
  f41 := ⟨Try.f49.name, by decide, Try.func49.trans (congrArg some (by kernel_rfl))⟩
  t4 := Try.underlying4
  a4 := Try.isAgg4
  z4 := Try.sizeOf4
  v4 := Try.zeroValue4
  t22 := Try.underlying33
  a22 := Try.isAgg33
  z22 := Try.sizeOf33
  v22 := Try.zeroValue33 }
def Try.indexC_ren : Go.Shelf.Ren := ⟨fun | 6 => 92 | n => n, fun | 22 => 25 | 23 => 61 | 25 => 126 | 3 => 3 | 0 => 0 | 4 => 4 | n => n, fun | n => n⟩
theorem Try.indexC : Go.Proofs.SlLaysH0.n6 Try.prog Try.indexC_ren := {
  mixed := by kernel_rfl
  f6 := ⟨Try.f92.name, by decide, Try.func92.trans (congrArg some (by kernel_rfl))⟩
  t0 := Try.underlying0
  a0 := Try.isAgg0
  z0 := Try.sizeOf0
  v0 := Try.zeroValue0
  t3 := Try.underlying3
  a3 := Try.isAgg3
  z3 := Try.sizeOf3
  v3 := Try.zeroValue3
  t4 := Try.underlying4
  a4 := Try.isAgg4
  z4 := Try.sizeOf4
  v4 := Try.zeroValue4
  t22 := Try.underlying25
  a22 := Try.isAgg25
  z22 := Try.sizeOf25
  v22 := Try.zeroValue25
  t25 := Try.underlying126
  a25 := Try.isAgg126
  z25 := Try.sizeOf126
  v25 := Try.zeroValue126 }
end Go.Proofs
