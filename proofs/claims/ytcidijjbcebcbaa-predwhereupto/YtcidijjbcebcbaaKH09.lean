/-
  What value.Compare, and what it calls, return, for every two values.
  The order of values: one of three answers, its opposite the other way round, nought just for the same value, and what stands ahead of what stands ahead does so itself.
  Blocks of memory, as the walks carry them: what a block holds, what a call that turns nothing older leaves.
  What the reference's Valid and Compare return, for every input: what the program's do.
  What value.Holds returns, for every way and every two values.
  What the reference's Holds returns, for every way and every two values.
-/
import Derived.Test.YtcidijjbcebcbaaKH08
import Derived.Handy
import Derived.Deep.DeepCutAuto
import Derived.Deep.Light
import Derived.Lib.QuietBelow
namespace Go.Proofs.Ytcidijjbcebcbaa.TN
open Go.RowKit

/- What was there is as it was; blocks may have come; the tape was asked no less often. -/
structure Grew (w w' : World) : Prop where
  below : Below w.heap.size w w'
  drawn : w.drawn ≤ w'.drawn
theorem Grew.refl (w : World) : Grew w w := ⟨Below.refl _ _, Nat.le_refl _⟩
theorem Grew.trans {a b c : World} (h : Grew a b) (k : Grew b c) : Grew a c := ⟨h.below.trans (k.below.mono h.below.size), Nat.le_trans h.drawn k.drawn⟩
theorem Grew.drewN {a b : World} (h : Grew a b) (n : Nat) : Grew a (b.drewN n) := ⟨h.below.trans ⟨rfl, rfl, rfl, Nat.le_refl _, fun _ _ => rfl⟩, Nat.le_trans h.drawn (Nat.le_add_right _ n)⟩
theorem Grew.drew {a b : World} (h : Grew a b) : Grew a b.drew := ⟨h.below.drew, Nat.le_trans h.drawn (Nat.le_add_right _ 1)⟩
theorem Grew.alloc {a b : World} (h : Grew a b) (o : Obj) : Grew a (b.alloc o) := ⟨h.below.alloc h.below.size o, h.drawn⟩
def cmpI (a b : Int) : Int := if a < b then -1 else if b < a then 1 else 0
def nth8 (a0 a1 a2 a3 a4 a5 a6 a7 : Int) : Nat → Int
  | 0 => a0 | 1 => a1 | 2 => a2 | 3 => a3 | 4 => a4 | 5 => a5 | 6 => a6 | 7 => a7 | _ => 0
/- The first place from k on, of m places, at which x and y part, and how. -/
def cmpFrom (x y : Nat → Int) : Nat → Nat → Int
  | 0, _ => 0
  | m + 1, k => if x k = y k then cmpFrom x y m (k + 1) else cmpI (x k) (y k)
def Arr (w : World) (b o : Nat) (x : Nat → Int) : Prop := ∀ i, i < 8 → w.cell? ⟨b, o + i, none⟩ = some (.int .i64 (x i))

theorem hid {p : Prop} (h : p) : Hid p := h
theorem ret_int {k : IntKind} {a b : Int} (h : a = b) : Ending.returned (.int k a) = .returned (.int k b) := by rw [h]

set_option maxHeartbeats 400000 in
theorem cmpInt_any {a b : Int} {w : World} :
    Calls Try.prog 96 #[.int .i64 a, .int .i64 b] w fun e w' => e = .returned (.int .i64 (cmpI a b)) ∧ w' = w := by
  go_enter Try.func96, Try.ntmps96
  go_wp2
  all_goals
    go_ret
    refine ⟨ret_int ?_, rfl⟩
    unfold cmpI
    split <;> (try split) <;> omega
theorem cmpI_self (a : Int) : cmpI a a = 0 := by simp [cmpI]
theorem cmpI_ne {a b : Int} (h : ¬ a = b) : (cmpI a b != 0) = true := by unfold cmpI; split <;> (try split) <;> simp <;> omega

theorem lt8 {i : Nat} (h : i < 8) : i = 0 ∨ i = 1 ∨ i = 2 ∨ i = 3 ∨ i = 4 ∨ i = 5 ∨ i = 6 ∨ i = 7 := by omega
theorem below_drewN {B : Nat} {a w : World} (h : Below B a w) (n : Nat) : Below B a (w.drewN n) := h.trans ⟨rfl, rfl, rfl, Nat.le_refl _, fun _ _ => rfl⟩
theorem cmpFrom_eq {x y : Nat → Int} {k : Nat} (hk : k < 8) (h : x k = y k) : cmpFrom x y (8 - k) k = cmpFrom x y (8 - (k + 1)) (k + 1) := by
  obtain ⟨m, hm⟩ : ∃ m, 8 - k = m + 1 := ⟨8 - (k + 1), by omega⟩
  rw [hm, show 8 - (k + 1) = m from by omega]; simp [cmpFrom, h]
theorem cmpFrom_ne {x y : Nat → Int} {k : Nat} (hk : k < 8) (h : ¬ x k = y k) : cmpFrom x y (8 - k) k = cmpI (x k) (y k) := by
  obtain ⟨m, hm⟩ : ∃ m, 8 - k = m + 1 := ⟨8 - (k + 1), by omega⟩
  rw [hm]; simp [cmpFrom, h]

set_option maxHeartbeats 400000 in
theorem cmpBuckets_any {a0 a1 a2 a3 a4 a5 a6 a7 b0 b1 b2 b3 b4 b5 b6 b7 : Int} {w : World} :
    Calls Try.prog 98 #[H8 a0 a1 a2 a3 a4 a5 a6 a7, H8 b0 b1 b2 b3 b4 b5 b6 b7] w fun e w' => e = .returned (.int .i64 (cmpFrom (nth8 a0 a1 a2 a3 a4 a5 a6 a7) (nth8 b0 b1 b2 b3 b4 b5 b6 b7) 8 0)) ∧ Grew w w' := by
  generalize hx : nth8 a0 a1 a2 a3 a4 a5 a6 a7 = x
  generalize hy : nth8 b0 b1 b2 b3 b4 b5 b6 b7 = y
  have HX := (show Hid (nth8 a0 a1 a2 a3 a4 a5 a6 a7 = x) from hx)
  have HY := (show Hid (nth8 b0 b1 b2 b3 b4 b5 b6 b7 = y) from hy)
  clear hx hy
  go_enter Try.func98, Try.ntmps98
  go_wp2
  go_loopw [7] (fun i w'' => ∃ k : Nat, k ≤ 8 ∧ i = .int .i64 k ∧ Hid (cmpFrom x y (8 - k) k = cmpFrom x y 8 0) ∧ Hid (Arr w'' w.heap.size 0 x) ∧ Hid (Arr w'' (w.heap.size + 1) 0 y) ∧ Hid (Grew w w'')) (fun i _ => 8 - (intOf i).toNat)
  case atStart => 
    refine ⟨0, by omega, rfl, rfl, ?_, ?_, ?_⟩
    · intro i hi
      rw [← HX.out]
      rcases lt8 hi with rfl | rfl | rfl | rfl | rfl | rfl | rfl | rfl <;> (simp [nth8, go_sem]; done)
    · intro i hi
      rw [← HY.out]
      rcases lt8 hi with rfl | rfl | rfl | rfl | rfl | rfl | rfl | rfl <;> (simp [nth8, go_sem]; done)
    · exact ((Grew.refl _).alloc _).alloc _
  case round =>
    obtain ⟨k, hk, rfl, HC, HA, HB, HBel⟩ := hrel
    by_cases hlt : k < 8
    · have hA : wr.cell? ⟨w.heap.size, k, none⟩ = some (.int .i64 (x k)) := by have := HA.out k hlt; simpa using this
      have hB : wr.cell? ⟨w.heap.size + 1, k, none⟩ = some (.int .i64 (y k)) := by have := HB.out k hlt; simpa using this
      by_cases he : x k = y k
      · have H0 : Hid (x k = y k) := he
        rw [← he] at hB
        have hz := cmpI_self (x k)
        clear he
        go_wp2_with fail
        go_quiet ((go_at_call 96; exact Calls.quiet_of_same cmpInt_any))
        go_wp2
        go_roundw
        case rel => exact ⟨k + 1, by omega, by go_num, (cmpFrom_eq hlt H0.out).symm.trans HC.out, HA.out, HB.out, HBel.out.drewN _⟩
        case measure => simp [intOf]; omega
      · have H0 : Hid (¬ x k = y k) := he
        have hz := cmpI_ne he
        clear he
        go_wp2_with fail
        go_quiet ((go_at_call 96; exact Calls.quiet_of_same cmpInt_any))
        go_wp2
        go_ret
        exact ⟨ret_int ((cmpFrom_ne hlt H0.out).symm.trans HC.out), HBel.out.drewN _⟩
    · have h8 : k = 8 := by omega
      subst h8
      go_wp2
      go_ret
      exact ⟨ret_int (by have := HC.out; simpa [cmpFrom] using this), HBel.out⟩

/- The order of texts, by their bytes. -/
def cmpB : List UInt8 → List UInt8 → Int
  | [], [] => 0
  | [], _ :: _ => -1
  | _ :: _, [] => 1
  | a :: x, b :: y => if a < b then -1 else if b < a then 1 else cmpB x y
theorem cmpB_less (x y : List UInt8) : Op.bytesLess x y = decide (cmpB x y = -1) := by
  induction x generalizing y with
  | nil => cases y <;> simp [Op.bytesLess, cmpB]
  | cons a x ih =>
    cases y with
    | nil => simp [Op.bytesLess, cmpB]
    | cons b y =>
      simp only [Op.bytesLess, cmpB, ih]
      by_cases h1 : a < b
      · simp [h1]
      · by_cases h2 : b < a
        · have : ¬ a = b := fun e => by subst e; exact h1 h2
          simp [h1, h2, this]
        · have : a = b := UInt8.le_antisymm (UInt8.not_lt.1 h2) (UInt8.not_lt.1 h1)
          subst this; simp [h1]
theorem cmpB_zero (x y : List UInt8) : cmpB x y = 0 ↔ x = y := by
  induction x generalizing y with
  | nil => cases y <;> simp [cmpB]
  | cons a x ih =>
    cases y with
    | nil => simp [cmpB]
    | cons b y =>
      simp only [cmpB, List.cons.injEq]
      by_cases h1 : a < b
      · have : ¬ a = b := fun e => by subst e; exact UInt8.lt_irrefl _ h1
        simp [h1, this]
      · by_cases h2 : b < a
        · have : ¬ a = b := fun e => by subst e; exact h1 h2
          simp [h1, h2, this]
        · have : a = b := UInt8.le_antisymm (UInt8.not_lt.1 h2) (UInt8.not_lt.1 h1)
          subst this; simp [h1, ih]
theorem cmpB_three (x y : List UInt8) : cmpB x y = -1 ∨ cmpB x y = 0 ∨ cmpB x y = 1 := by
  induction x generalizing y with
  | nil => cases y <;> simp [cmpB]
  | cons a x ih =>
    cases y with
    | nil => simp [cmpB]
    | cons b y =>
      simp only [cmpB]
      split
      · simp
      · split
        · simp
        · exact ih y
def cmpS (s t : ByteArray) : Int := cmpB s.toList t.toList
set_option maxHeartbeats 400000 in
theorem cmpStr_any {s t : ByteArray} {w : World} :
    Calls Try.prog 97 #[.string s, .string t] w fun e w' => e = .returned (.int .i64 (cmpS s t)) ∧ w' = w := by
  go_enter Try.func97, Try.ntmps97
  go_wp2
  all_goals
    go_ret
    refine ⟨ret_int ?_, rfl⟩
    have h3 := cmpB_three s.toList t.toList
    have hl := cmpB_less s.toList t.toList
    have h0 := cmpB_zero s.toList t.toList
    unfold cmpS
    simp_all
  all_goals omega

def thn (c d : Int) : Int := if c = 0 then d else c
theorem thn_zero {c d : Int} (h : (c != 0) = false) : thn c d = d := by simp at h; simp [thn, h]
theorem thn_ne {c d : Int} (h : (c != 0) = true) : thn c d = c := by simp at h; simp [thn, h]
def cmpV (k n : Int) (s : ByteArray) (a0 a1 a2 a3 a4 a5 a6 a7 : Int) (k' n' : Int) (s' : ByteArray) (b0 b1 b2 b3 b4 b5 b6 b7 : Int) : Int :=
  thn (cmpI k k') (thn (cmpI n n') (thn (cmpS s s') (cmpFrom (nth8 a0 a1 a2 a3 a4 a5 a6 a7) (nth8 b0 b1 b2 b3 b4 b5 b6 b7) 8 0)))
set_option maxHeartbeats 400000 in
theorem compare_any {k n : Int} {s : ByteArray} {a0 a1 a2 a3 a4 a5 a6 a7 : Int} {k' n' : Int} {s' : ByteArray} {b0 b1 b2 b3 b4 b5 b6 b7 : Int} {w : World} :
    Calls Try.prog 63 #[V k n s a0 a1 a2 a3 a4 a5 a6 a7, V k' n' s' b0 b1 b2 b3 b4 b5 b6 b7] w fun e w' => e = .returned (.int .i64 (cmpV k n s a0 a1 a2 a3 a4 a5 a6 a7 k' n' s' b0 b1 b2 b3 b4 b5 b6 b7)) ∧ Grew w w' := by
  generalize hr : cmpV k n s a0 a1 a2 a3 a4 a5 a6 a7 k' n' s' b0 b1 b2 b3 b4 b5 b6 b7 = r
  unfold cmpV at hr
  cases h1 : cmpI k k' != 0
  · rw [thn_zero h1] at hr
    cases h2 : cmpI n n' != 0
    · rw [thn_zero h2] at hr
      cases h3 : cmpS s s' != 0
      · rw [thn_zero h3] at hr
        have HR : Hid _ := hr
        clear hr
        go_enter Try.func63, Try.ntmps63
        go_wp2_with (first | (go_at_call 96; refine cmpInt_any.mono ?_; rintro e w' ⟨rfl, rfl⟩) | (go_at_call 97; refine cmpStr_any.mono ?_; rintro e w' ⟨rfl, rfl⟩) | (go_at_call 98; refine cmpBuckets_any.mono ?_; rintro e w' ⟨rfl, hb⟩))
        go_ret
        exact ⟨ret_int HR.out, (((Grew.refl _).alloc _).alloc _).trans hb⟩
      · rw [thn_ne h3] at hr
        have HR : Hid _ := hr
        clear hr
        go_enter Try.func63, Try.ntmps63
        go_wp2_with (first | (go_at_call 96; refine cmpInt_any.mono ?_; rintro e w' ⟨rfl, rfl⟩) | (go_at_call 97; refine cmpStr_any.mono ?_; rintro e w' ⟨rfl, rfl⟩))
        go_ret
        exact ⟨ret_int HR.out, ((Grew.refl _).alloc _).alloc _⟩
    · rw [thn_ne h2] at hr
      have HR : Hid _ := hr
      clear hr
      go_enter Try.func63, Try.ntmps63
      go_wp2_with (first | (go_at_call 96; refine cmpInt_any.mono ?_; rintro e w' ⟨rfl, rfl⟩))
      go_ret
      exact ⟨ret_int HR.out, ((Grew.refl _).alloc _).alloc _⟩
  · rw [thn_ne h1] at hr
    have HR : Hid _ := hr
    clear hr
    go_enter Try.func63, Try.ntmps63
    go_wp2_with (first | (go_at_call 96; refine cmpInt_any.mono ?_; rintro e w' ⟨rfl, rfl⟩))
    go_ret
    exact ⟨ret_int HR.out, ((Grew.refl _).alloc _).alloc _⟩
end Go.Proofs.Ytcidijjbcebcbaa.TN
namespace Go.Proofs.Ytcidijjbcebcbaa.TN

/- The order of values is one: each of its parts is, and one part behind another. -/
def tri (x y z : Int) : Prop :=
  (x = -1 ∨ x = 0 ∨ x = 1) ∧ (y = -1 ∨ y = 0 ∨ y = 1) ∧ (z = -1 ∨ z = 0 ∨ z = 1) ∧
  (x = 0 → z = y) ∧ (y = 0 → z = x) ∧ (x = -1 → y = -1 → z = -1) ∧ (x = 1 → y = 1 → z = 1)
theorem tri_cmpI (a b c : Int) : tri (cmpI a b) (cmpI b c) (cmpI a c) := by
  unfold tri cmpI
  repeat' split
  all_goals omega
theorem tri_thn {x y z x' y' z' : Int} (h : tri x y z) (h' : tri x' y' z') : tri (thn x x') (thn y y') (thn z z') := by
  obtain ⟨hx, hy, hz, h1, h2, h3, h4⟩ := h
  obtain ⟨hx', hy', hz', h1', h2', h3', h4'⟩ := h'
  rcases hx with rfl | rfl | rfl <;> rcases hy with rfl | rfl | rfl <;> rcases hz with rfl | rfl | rfl <;>
    first
    | (exfalso; clear hx' hy' hz' h1' h2' h3' h4'; omega)
    | (simp only [thn]; refine ⟨?_, ?_, ?_, ?_, ?_, ?_, ?_⟩ <;> simp <;> omega)
theorem cmpFrom_thn (x y : Nat → Int) (m k : Nat) : cmpFrom x y (m + 1) k = thn (cmpI (x k) (y k)) (cmpFrom x y m (k + 1)) := by
  unfold thn
  simp only [cmpFrom]
  by_cases h : x k = y k
  · simp [h, cmpI]
  · rw [if_neg h, if_neg (fun e => by have := cmpI_ne h; simp [e] at this)]
theorem tri_cmpFrom (x y z : Nat → Int) (m k : Nat) : tri (cmpFrom x y m k) (cmpFrom y z m k) (cmpFrom x z m k) := by
  induction m generalizing k with
  | zero => unfold tri; simp [cmpFrom]
  | succ m ih => simp only [cmpFrom_thn]; exact tri_thn (tri_cmpI _ _ _) (ih _)
theorem cmpB_thn (a b : UInt8) (x y : List UInt8) : cmpB (a :: x) (b :: y) = thn (cmpI (a.toNat : Int) (b.toNat : Int)) (cmpB x y) := by
  simp only [cmpB, thn, cmpI, UInt8.lt_iff_toNat_lt]
  repeat' split
  all_goals first | rfl | omega
theorem tri_left {y : Int} (h : y = -1 ∨ y = 0 ∨ y = 1) : tri (-1) y (-1) := by unfold tri; omega
theorem tri_right {x : Int} (h : x = -1 ∨ x = 0 ∨ x = 1) : tri x 1 1 := by unfold tri; omega
theorem tri_mid {z : Int} (h : z = -1 ∨ z = 0 ∨ z = 1) : tri 1 (-1) z := by unfold tri; omega
theorem tri_cmpB (x y z : List UInt8) : tri (cmpB x y) (cmpB y z) (cmpB x z) := by
  induction x generalizing y z with
  | nil =>
    cases y with
    | nil => cases z <;> simp [tri, cmpB]
    | cons b y =>
      cases z with
      | nil => simp [tri, cmpB]
      | cons c z => exact tri_left (cmpB_three _ _)
  | cons a x ih =>
    cases y with
    | nil =>
      cases z with
      | nil => simp [tri, cmpB]
      | cons c z => exact tri_mid (cmpB_three _ _)
    | cons b y =>
      cases z with
      | nil => exact tri_right (cmpB_three _ _)
      | cons c z => simp only [cmpB_thn]; exact tri_thn (tri_cmpI _ _ _) (ih _ _)
theorem neg_cmpI (a b : Int) : cmpI b a = -cmpI a b := by
  unfold cmpI
  repeat' split
  all_goals omega
theorem neg_thn {x y x' y' : Int} (h : y = -x) (h' : y' = -x') : thn y y' = -thn x x' := by
  unfold thn
  repeat' split
  all_goals omega
theorem neg_cmpFrom (x y : Nat → Int) (m k : Nat) : cmpFrom y x m k = -cmpFrom x y m k := by
  induction m generalizing k with
  | zero => simp [cmpFrom]
  | succ m ih => simp only [cmpFrom_thn]; exact neg_thn (neg_cmpI _ _) (ih _)
theorem neg_cmpB (x y : List UInt8) : cmpB y x = -cmpB x y := by
  induction x generalizing y with
  | nil => cases y <;> simp [cmpB]
  | cons a x ih =>
    cases y with
    | nil => simp [cmpB]
    | cons b y => simp only [cmpB_thn]; exact neg_thn (neg_cmpI _ _) (ih _)
section
variable (k n : Int) (s : ByteArray) (a0 a1 a2 a3 a4 a5 a6 a7 : Int) (k' n' : Int) (s' : ByteArray) (b0 b1 b2 b3 b4 b5 b6 b7 : Int) (k'' n'' : Int) (s'' : ByteArray) (c0 c1 c2 c3 c4 c5 c6 c7 : Int)
theorem tri_cmpV : tri (cmpV k n s a0 a1 a2 a3 a4 a5 a6 a7 k' n' s' b0 b1 b2 b3 b4 b5 b6 b7) (cmpV k' n' s' b0 b1 b2 b3 b4 b5 b6 b7 k'' n'' s'' c0 c1 c2 c3 c4 c5 c6 c7) (cmpV k n s a0 a1 a2 a3 a4 a5 a6 a7 k'' n'' s'' c0 c1 c2 c3 c4 c5 c6 c7) :=
  tri_thn (tri_cmpI _ _ _) (tri_thn (tri_cmpI _ _ _) (tri_thn (tri_cmpB _ _ _) (tri_cmpFrom _ _ _ _ _)))
theorem neg_cmpV : cmpV k' n' s' b0 b1 b2 b3 b4 b5 b6 b7 k n s a0 a1 a2 a3 a4 a5 a6 a7 = -cmpV k n s a0 a1 a2 a3 a4 a5 a6 a7 k' n' s' b0 b1 b2 b3 b4 b5 b6 b7 :=
  neg_thn (neg_cmpI _ _) (neg_thn (neg_cmpI _ _) (neg_thn (neg_cmpB _ _) (neg_cmpFrom _ _ _ _)))
theorem cmpI_zero (a b : Int) : cmpI a b = 0 ↔ a = b := by
  unfold cmpI
  repeat' split
  all_goals omega
theorem thn_zero_iff (x y : Int) : thn x y = 0 ↔ x = 0 ∧ y = 0 := by
  unfold thn
  split <;> omega
theorem eqV_cmpV : eqV k n s a0 a1 a2 a3 a4 a5 a6 a7 k' n' s' b0 b1 b2 b3 b4 b5 b6 b7 = (cmpV k n s a0 a1 a2 a3 a4 a5 a6 a7 k' n' s' b0 b1 b2 b3 b4 b5 b6 b7 == 0) := by
  rw [Bool.eq_iff_iff]
  unfold cmpV eqV eqH cmpS
  simp only [cmpFrom_thn]
  simp only [Bool.and_eq_true, decide_eq_true_eq, beq_iff_eq, thn_zero_iff, cmpI_zero, cmpB_zero, cmpFrom, nth8, and_true]
  constructor
  · rintro ⟨⟨rfl, rfl, rfl⟩, h⟩; exact ⟨rfl, rfl, rfl, h⟩
  · rintro ⟨h1, h2, h3, h⟩; exact ⟨⟨h1, h2, bytes_toList_inj h3⟩, h⟩
end
end Go.Proofs.Ytcidijjbcebcbaa.TN
namespace Go.Proofs.Ytcidijjbcebcbaa.TN
open Go.RowKit Go.Sort

theorem ret_bool {a b : Bool} (h : a = b) : Ending.returned (.bool a) = .returned (.bool b) := by rw [h]
theorem below_on {W w1 w2 : World} (h : Below W.heap.size W w1) (h2 : Below w1.heap.size w1 w2) : Below W.heap.size W w2 := h.trans (h2.mono h.size)
theorem lt_of_block {w : World} {b : Nat} {o : Obj} (h : w.heap[b]? = some o) : b < w.heap.size := (Array.getElem?_eq_some_iff.1 h).1
theorem block_on {w w' : World} {b : Nat} {o : Obj} (h : w.heap[b]? = some o) (hb : Below w.heap.size w w') : w'.heap[b]? = some o := (hb.block b (lt_of_block h)).trans h
theorem block_cell {w : World} {b : Nat} {xs : Array Value} {t : TypeId} {fz : Nat × Nat} (h : w.heap[b]? = some (.cells xs t fz)) (o : Nat) : w.cell? ⟨b, o, none⟩ = xs[o]? := by
  simp [World.cell?, h]
theorem alloc_block (w : World) (o : Obj) : (w.alloc o).heap[w.heap.size]? = some o := by
  show (w.heap.push o)[w.heap.size]? = _
  simp
end Go.Proofs.Ytcidijjbcebcbaa.TN
namespace Go.Proofs.Ytcidijjbcebcbaa.TN
open Go.RowKit
theorem toList_nil (s : ByteArray) : s.toList = [] ↔ s = noText := by
  constructor
  · intro h; exact bytes_toList_inj (by rw [h, ByteArray.toList_eq]; rfl)
  · intro h; subst h; rw [ByteArray.toList_eq]; rfl
theorem toList_isEmpty (s : ByteArray) : s.toList.isEmpty = decide (s = noText) := by
  rw [Bool.eq_iff_iff]; simp [toList_nil]
theorem size_iff (s : ByteArray) : (s.size : Int) ≤ 64 ↔ s.size ≤ 64 := by omega
set_option maxHeartbeats 400000 in
theorem rvalid_any {k n : Int} {s : ByteArray} {a0 a1 a2 a3 a4 a5 a6 a7 : Int} {w : World} :
    Calls Try.prog 65 #[V k n s a0 a1 a2 a3 a4 a5 a6 a7] w fun e w' => e = .returned (.bool (validB k n s a0 a1 a2 a3 a4 a5 a6 a7)) ∧ Below w.heap.size w w' := by
  have he := @eql22
  generalize hr : validB k n s a0 a1 a2 a3 a4 a5 a6 a7 = r
  have HR := hid (show validB k n s a0 a1 a2 a3 a4 a5 a6 a7 = r from hr)
  clear hr
  by_cases h1 : k = 1
  · subst h1
    go_enter Try.func65, Try.ntmps65
    go_wp2
    all_goals
      go_ret
      refine ⟨ret_bool ?_, (Below.refl _ _).alloc (Nat.le_refl _) _⟩
      go_light
      rw [← HR.out]
      have ht := toList_nil s
      have hz := size_iff s
      simp_all [validB, zeroH]
  · by_cases h2 : k = 2
    · subst h2
      go_enter Try.func65, Try.ntmps65
      go_wp2
      all_goals
        go_ret
        refine ⟨ret_bool ?_, (Below.refl _ _).alloc (Nat.le_refl _) _⟩
        go_light
        rw [← HR.out]
        have ht := toList_nil s
        have hz := size_iff s
        simp_all [validB, zeroH]
    · by_cases h3 : k = 3
      · subst h3
        go_enter Try.func65, Try.ntmps65
        go_wp2
        all_goals
          go_ret
          refine ⟨ret_bool ?_, (Below.refl _ _).alloc (Nat.le_refl _) _⟩
          go_light
          rw [← HR.out]
          have ht := toList_nil s
          have hz := size_iff s
          simp_all [validB, zeroH]
      · by_cases h4 : k = 4
        · subst h4
          go_enter Try.func65, Try.ntmps65
          go_wp2
          all_goals
            go_ret
            refine ⟨ret_bool ?_, (Below.refl _ _).alloc (Nat.le_refl _) _⟩
            go_light
            rw [← HR.out]
            have ht := toList_nil s
            have hz := size_iff s
            have hi := toList_isEmpty s
            simp_all [validB]
        · have g1 : (k == 1) = false := by simpa using h1
          have g2 : (k == 2) = false := by simpa using h2
          have g3 : (k == 3) = false := by simpa using h3
          have g4 : (k == 4) = false := by simpa using h4
          have HR2 := hid (show validB k n s a0 a1 a2 a3 a4 a5 a6 a7 = false by simp [validB, h1, h2, h3, h4])
          clear h1 h2 h3 h4
          go_enter Try.func65, Try.ntmps65
          go_wp2
          go_ret
          exact ⟨ret_bool (by rw [← HR.out, HR2.out]), (Below.refl _ _).alloc (Nat.le_refl _) _⟩
theorem alloc_block2 (w : World) (x y : Obj) : ((w.alloc x).alloc y).heap[w.heap.size + 1]? = some y := by
  have h := alloc_block (w.alloc x) y
  rwa [World.size_alloc] at h
theorem wrap64_u8 (c : UInt8) : wrap64 (c.toNat : Int) = (c.toNat : Int) := by
  have := c.toNat_lt
  go_arith
set_option maxHeartbeats 400000 in
theorem order_any {a b : Int} {w : World} :
    Calls Try.prog 66 #[.int .i64 a, .int .i64 b] w fun e w' => e = .returned (.int .i64 (cmpI a b)) ∧ w' = w := by
  go_enter Try.func66, Try.ntmps66
  go_wp2
  all_goals
    go_ret
    refine ⟨ret_int ?_, rfl⟩
    unfold cmpI
    split <;> (try split) <;> omega
theorem nth8_cell {W : World} {b : Nat} {k n : Int} {s : ByteArray} {a0 a1 a2 a3 a4 a5 a6 a7 : Int} (h : W.heap[b]? = some (.cells #[.int .i64 k, .int .i64 n, .string s, .int .i64 a0, .int .i64 a1, .int .i64 a2, .int .i64 a3, .int .i64 a4, .int .i64 a5, .int .i64 a6, .int .i64 a7] 39 (0, 0))) (i : Nat) (hi : i < 8) : W.cell? ⟨b, 3 + i, none⟩ = some (.int .i64 (nth8 a0 a1 a2 a3 a4 a5 a6 a7 i)) := by
  rw [block_cell h]
  rcases lt8 hi with rfl | rfl | rfl | rfl | rfl | rfl | rfl | rfl <;> rfl
theorem cmpB_drop_eq {x y : ByteArray} {i : Nat} (hx : i < x.size) (hy : i < y.size) (h : x[i] = y[i]) : cmpB (x.data.toList.drop i) (y.data.toList.drop i) = cmpB (x.data.toList.drop (i + 1)) (y.data.toList.drop (i + 1)) := by
  rw [List.drop_eq_getElem_cons (i := i) (by simpa using hx), List.drop_eq_getElem_cons (i := i) (l := y.data.toList) (by simpa using hy)]
  have h' : x.data.toList[i]'(by simpa using hx) = y.data.toList[i]'(by simpa using hy) := h
  simp [cmpB, h']
theorem cmpB_drop_ne {x y : ByteArray} {i : Nat} (hx : i < x.size) (hy : i < y.size) (h : ¬ x[i] = y[i]) : cmpB (x.data.toList.drop i) (y.data.toList.drop i) = cmpI (x[i].toNat : Int) (y[i].toNat : Int) := by
  rw [List.drop_eq_getElem_cons (i := i) (by simpa using hx), List.drop_eq_getElem_cons (i := i) (l := y.data.toList) (by simpa using hy)]
  have e1 : x.data.toList[i]'(by simpa using hx) = x[i] := rfl
  have e2 : y.data.toList[i]'(by simpa using hy) = y[i] := rfl
  rw [e1, e2]
  generalize x[i] = a at *
  generalize y[i] = b at *
  simp only [cmpB, cmpI, UInt8.lt_iff_toNat_lt]
  have hne : a.toNat ≠ b.toNat := fun e => h (UInt8.toNat_inj.1 e)
  repeat' split
  all_goals omega
theorem cmpB_end {x y : ByteArray} {i : Nat} (h1 : i ≤ x.size) (h2 : i ≤ y.size) (h : ¬ (i < x.size ∧ i < y.size)) : cmpB (x.data.toList.drop i) (y.data.toList.drop i) = cmpI (x.size : Int) (y.size : Int) := by
  have lx : x.data.toList.length = x.size := Array.length_toList
  have ly : y.data.toList.length = y.size := Array.length_toList
  have dx : (x.data.toList.drop i).length = x.size - i := by rw [List.length_drop, lx]
  have dy : (y.data.toList.drop i).length = y.size - i := by rw [List.length_drop, ly]
  generalize x.data.toList.drop i = p at *
  generalize y.data.toList.drop i = q at *
  unfold cmpI
  cases p with
  | nil =>
    cases q with
    | nil => simp at dx dy; rw [if_neg (by omega), if_neg (by omega)]; rfl
    | cons b q => simp at dx dy; rw [if_pos (by omega)]; rfl
  | cons a p =>
    cases q with
    | nil => simp at dx dy; rw [if_neg (by omega), if_pos (by omega)]; rfl
    | cons b q => simp at dx dy; omega
set_option maxHeartbeats 1000000 in
theorem rcompare_any {k n : Int} {s : ByteArray} {a0 a1 a2 a3 a4 a5 a6 a7 : Int} {k' n' : Int} {s' : ByteArray} {b0 b1 b2 b3 b4 b5 b6 b7 : Int} {w : World} (hs : s.size ≤ maxLen) (hs' : s'.size ≤ maxLen) :
    Calls Try.prog 34 #[V k n s a0 a1 a2 a3 a4 a5 a6 a7, V k' n' s' b0 b1 b2 b3 b4 b5 b6 b7] w fun e w' => e = .returned (.int .i64 (cmpV k n s a0 a1 a2 a3 a4 a5 a6 a7 k' n' s' b0 b1 b2 b3 b4 b5 b6 b7)) ∧ Below w.heap.size w w' := by
  unfold maxLen at hs hs'
  generalize hr : cmpV k n s a0 a1 a2 a3 a4 a5 a6 a7 k' n' s' b0 b1 b2 b3 b4 b5 b6 b7 = r
  unfold cmpV at hr
  by_cases h1 : k = k'
  · subst h1
    rw [thn_zero (by simp [cmpI_self])] at hr
    by_cases h2 : n = n'
    · subst h2
      rw [thn_zero (by simp [cmpI_self])] at hr
      have HR := hid hr
      clear hr
      go_enter Try.func34, Try.ntmps34
      go_wp2
      go_loopw [5] (fun i wr => ∃ j : Nat, j ≤ s.size ∧ j ≤ s'.size ∧ i = .int .i64 j ∧ Hid (cmpB (s.data.toList.drop j) (s'.data.toList.drop j) = cmpS s s') ∧ Hid (wr.heap[w.heap.size]? = some (.cells #[.int .i64 k, .int .i64 n, .string s, .int .i64 a0, .int .i64 a1, .int .i64 a2, .int .i64 a3, .int .i64 a4, .int .i64 a5, .int .i64 a6, .int .i64 a7] 39 (0, 0))) ∧ Hid (wr.heap[w.heap.size + 1]? = some (.cells #[.int .i64 k, .int .i64 n, .string s', .int .i64 b0, .int .i64 b1, .int .i64 b2, .int .i64 b3, .int .i64 b4, .int .i64 b5, .int .i64 b6, .int .i64 b7] 39 (0, 0))) ∧ Hid (Below w.heap.size w wr)) (fun i _ => s.size - (intOf i).toNat)
      case atStart =>
        refine ⟨0, by omega, by omega, rfl, ?_, ?_, ?_, ?_⟩
        · show cmpB _ _ = cmpB _ _
          rw [ByteArray.toList_eq, ByteArray.toList_eq]; rfl
        · exact block_on (alloc_block w _) ((Below.refl _ _).alloc (Nat.le_refl _) _)
        · exact hid (alloc_block2 _ _ _)
        · show Below _ _ _
          go_grown
      case round =>
        obtain ⟨j, hj1, hj2, rfl, HC, HA, HB, HBel⟩ := hrel
        have c0 := fun o => block_cell HA.out o
        have c1 := fun o => block_cell HB.out o
        by_cases hlt : j < s.size ∧ j < s'.size
        · obtain ⟨l1, l2⟩ := hlt
          by_cases he : s[j] = s'[j]
          · have hne : ((s[j].toNat : Int) != (s'[j].toNat : Int)) = false := by rw [he]; simp
            have HE := hid he
            clear he
            go_wp2_with fail
            go_quiet (fail)
            go_wp2
            go_roundw
            case rel => exact ⟨j + 1, by omega, by omega, by go_num, (cmpB_drop_eq l1 l2 HE.out).symm.trans HC.out, HA.out, HB.out, below_drewN HBel.out _⟩
            case measure => simp [intOf]; omega
          · have hne : ((s[j].toNat : Int) != (s'[j].toNat : Int)) = true := by
              simp only [bne_iff_ne, ne_eq]; intro e; apply he; apply UInt8.toNat_inj.1; omega
            have HE := hid he
            clear he
            go_wp2_with fail
            go_quiet (fail)
            have HA2 := hid (show (wr.drewN nq).heap[w.heap.size]? = _ from HA.out)
            have HB2 := hid (show (wr.drewN nq).heap[w.heap.size + 1]? = _ from HB.out)
            have HBel2 := hid (below_drewN HBel.out nq)
            clear c0 c1 HA HB HBel
            generalize wr.drewN nq = wr2 at *
            have c0 := fun o => block_cell HA2.out o
            have c1 := fun o => block_cell HB2.out o
            go_wp2_with fail
            go_quiet ((go_at_call 66; exact Calls.quiet_of_same order_any))
            go_wp2
            go_ret
            refine ⟨ret_int ?_, below_drewN HBel2.out _⟩
            have hfin : cmpI (s[j].toNat : Int) (s'[j].toNat : Int) = r := by
              rw [← HR.out, ← HC.out, cmpB_drop_ne l1 l2 HE.out]
              exact (thn_ne (cmpI_ne (fun e => HE.out (UInt8.toNat_inj.1 (by omega))))).symm
            rw [wrap64_u8, wrap64_u8]
            exact hfin
        · have HE := hid (cmpB_end hj1 hj2 hlt)
          by_cases hs2 : s.size = s'.size
          · have hz : ((s.size : Int) != (s'.size : Int)) = false := by rw [hs2]; simp
            have hj3 : ¬ j < s.size := by omega
            have HR2 := hid (show cmpFrom (nth8 a0 a1 a2 a3 a4 a5 a6 a7) (nth8 b0 b1 b2 b3 b4 b5 b6 b7) 8 0 = r by
              rw [← HR.out, ← HC.out, HE.out, hs2, cmpI_self]; exact (thn_zero (by simp)).symm)
            clear hlt HE HC HR hs2
            go_wp2
            go_loopw [6] (fun i wr => ∃ j : Nat, j ≤ 8 ∧ i = .int .i64 j ∧ Hid (cmpFrom (nth8 a0 a1 a2 a3 a4 a5 a6 a7) (nth8 b0 b1 b2 b3 b4 b5 b6 b7) (8 - j) j = r) ∧ Hid (wr.heap[w.heap.size]? = some (.cells #[.int .i64 k, .int .i64 n, .string s, .int .i64 a0, .int .i64 a1, .int .i64 a2, .int .i64 a3, .int .i64 a4, .int .i64 a5, .int .i64 a6, .int .i64 a7] 39 (0, 0))) ∧ Hid (wr.heap[w.heap.size + 1]? = some (.cells #[.int .i64 k, .int .i64 n, .string s', .int .i64 b0, .int .i64 b1, .int .i64 b2, .int .i64 b3, .int .i64 b4, .int .i64 b5, .int .i64 b6, .int .i64 b7] 39 (0, 0))) ∧ Hid (Below w.heap.size w wr)) (fun i _ => 8 - (intOf i).toNat)
            case atStart => exact ⟨0, by omega, rfl, HR2.out, HA.out, HB.out, HBel.out⟩
            case round =>
              obtain ⟨i, hi, rfl, HC, HA, HB, HBel⟩ := hrel
              by_cases hlt : i < 8
              · have c0 := nth8_cell HA.out i hlt
                have c1 := nth8_cell HB.out i hlt
                by_cases he : nth8 a0 a1 a2 a3 a4 a5 a6 a7 i = nth8 b0 b1 b2 b3 b4 b5 b6 b7 i
                · have H0 := hid he
                  rw [← he] at c1
                  generalize nth8 a0 a1 a2 a3 a4 a5 a6 a7 i = xi at c0 c1
                  clear he
                  go_wp2_with fail
                  go_quiet (fail)
                  go_wp2
                  go_roundw
                  case rel => exact ⟨i + 1, by omega, by go_num, (cmpFrom_eq hlt H0.out).symm.trans HC.out, HA.out, HB.out, below_drewN HBel.out _⟩
                  case measure => simp [intOf]; omega
                · have H0 := hid he
                  have H1 := hid (cmpFrom_ne hlt he)
                  have hne : (nth8 a0 a1 a2 a3 a4 a5 a6 a7 i != nth8 b0 b1 b2 b3 b4 b5 b6 b7 i) = true := by simpa using he
                  clear he
                  go_wp2_with fail
                  go_quiet (fail)
                  have HA2 := hid (show (wr.drewN nq).heap[w.heap.size]? = _ from HA.out)
                  have HB2 := hid (show (wr.drewN nq).heap[w.heap.size + 1]? = _ from HB.out)
                  have HBel2 := hid (below_drewN HBel.out nq)
                  clear c0 c1 HA HB HBel
                  generalize wr.drewN nq = wr2 at *
                  have c0 := nth8_cell HA2.out i hlt
                  have c1 := nth8_cell HB2.out i hlt
                  go_wp2_with fail
                  go_quiet ((go_at_call 66; exact Calls.quiet_of_same order_any))
                  go_wp2
                  go_ret
                  exact ⟨ret_int (H1.out.symm.trans HC.out), below_drewN HBel2.out _⟩
              · have h8 : i = 8 := by omega
                subst h8
                go_wp2
                go_ret
                exact ⟨ret_int (by have := HC.out; simpa [cmpFrom] using this), HBel.out⟩
          · have hz : ((s.size : Int) != (s'.size : Int)) = true := by simp only [bne_iff_ne, ne_eq]; omega
            have HR2 := hid (show cmpI (s.size : Int) (s'.size : Int) = r by
              rw [← HR.out, ← HC.out, HE.out]; exact (thn_ne (cmpI_ne (by omega))).symm)
            clear HE HC HR hs2
            by_cases hj3 : j < s.size
            · have hj4 : ¬ j < s'.size := by omega
              clear hlt
              go_wp2_with (first | (go_at_call 66; refine order_any.mono ?_; rintro e w' ⟨rfl, rfl⟩))
              go_ret
              exact ⟨ret_int HR2.out, HBel.out⟩
            · clear hlt
              go_wp2_with (first | (go_at_call 66; refine order_any.mono ?_; rintro e w' ⟨rfl, rfl⟩))
              go_ret
              exact ⟨ret_int HR2.out, HBel.out⟩
    · have hz : (n != n') = true := by simpa using h2
      rw [thn_ne (cmpI_ne h2)] at hr
      have HR := hid hr
      clear hr h2
      go_enter Try.func34, Try.ntmps34
      go_wp2_with (first | (go_at_call 66; refine order_any.mono ?_; rintro e w' ⟨rfl, rfl⟩))
      go_ret
      exact ⟨ret_int HR.out, ((Below.refl _ _).alloc (Nat.le_refl _) _).alloc (by simp) _⟩
  · have hz : (k != k') = true := by simpa using h1
    rw [thn_ne (cmpI_ne h1)] at hr
    have HR := hid hr
    clear hr h1
    go_enter Try.func34, Try.ntmps34
    go_wp2_with (first | (go_at_call 66; refine order_any.mono ?_; rintro e w' ⟨rfl, rfl⟩))
    go_ret
    exact ⟨ret_int HR.out, ((Below.refl _ _).alloc (Nat.le_refl _) _).alloc (by simp) _⟩
end Go.Proofs.Ytcidijjbcebcbaa.TN
namespace Go.Proofs.Ytcidijjbcebcbaa.TN
open Go.RowKit

def holdsB (how k k' c : Int) : Bool :=
  if k = k' then (if how = 1 then c == 0 else if how = 2 then c != 0 else if how = 3 then decide (c < 0) else if how = 4 then decide (c ≤ 0) else if how = 5 then decide (0 < c) else if how = 6 then decide (0 ≤ c) else false) else false

theorem ret_boolH {a b : Bool} (h : a = b) : Ending.returned (.bool a) = .returned (.bool b) := by rw [h]

set_option maxHeartbeats 400000 in
theorem holds_any {how : Int} {k n : Int} {s : ByteArray} {a0 a1 a2 a3 a4 a5 a6 a7 : Int} {k' n' : Int} {s' : ByteArray} {b0 b1 b2 b3 b4 b5 b6 b7 : Int} {w : World} :
    Calls Try.prog 107 #[.int .i64 how, V k n s a0 a1 a2 a3 a4 a5 a6 a7, V k' n' s' b0 b1 b2 b3 b4 b5 b6 b7] w fun e w' => e = .returned (.bool (holdsB how k k' (cmpV k n s a0 a1 a2 a3 a4 a5 a6 a7 k' n' s' b0 b1 b2 b3 b4 b5 b6 b7))) ∧ Below w.heap.size w w' := by
  by_cases hk : k = k'
  · subst hk
    by_cases h1 : how = 1
    · subst h1
      go_enter Try.func107, Try.ntmps107
      go_wp2_with (go_at_call 63; refine compare_any.mono ?_; rintro e w' ⟨rfl, hb⟩)
      go_ret
      exact ⟨ret_boolH (by simp [holdsB]), (((Below.refl _ _).alloc (Nat.le_refl _) _).alloc (by simp) _).trans (hb.below.mono (by go_size))⟩
    · by_cases h2 : how = 2
      · subst h2
        go_enter Try.func107, Try.ntmps107
        go_wp2_with (go_at_call 63; refine compare_any.mono ?_; rintro e w' ⟨rfl, hb⟩)
        go_ret
        exact ⟨ret_boolH (by simp [holdsB]), (((Below.refl _ _).alloc (Nat.le_refl _) _).alloc (by simp) _).trans (hb.below.mono (by go_size))⟩
      · by_cases h3 : how = 3
        · subst h3
          go_enter Try.func107, Try.ntmps107
          go_wp2_with (go_at_call 63; refine compare_any.mono ?_; rintro e w' ⟨rfl, hb⟩)
          go_ret
          exact ⟨ret_boolH (by simp [holdsB]), (((Below.refl _ _).alloc (Nat.le_refl _) _).alloc (by simp) _).trans (hb.below.mono (by go_size))⟩
        · by_cases h4 : how = 4
          · subst h4
            go_enter Try.func107, Try.ntmps107
            go_wp2_with (go_at_call 63; refine compare_any.mono ?_; rintro e w' ⟨rfl, hb⟩)
            go_ret
            exact ⟨ret_boolH (by simp [holdsB]), (((Below.refl _ _).alloc (Nat.le_refl _) _).alloc (by simp) _).trans (hb.below.mono (by go_size))⟩
          · by_cases h5 : how = 5
            · subst h5
              go_enter Try.func107, Try.ntmps107
              go_wp2_with (go_at_call 63; refine compare_any.mono ?_; rintro e w' ⟨rfl, hb⟩)
              go_ret
              exact ⟨ret_boolH (by simp [holdsB]), (((Below.refl _ _).alloc (Nat.le_refl _) _).alloc (by simp) _).trans (hb.below.mono (by go_size))⟩
            · by_cases h6 : how = 6
              · subst h6
                go_enter Try.func107, Try.ntmps107
                go_wp2_with (go_at_call 63; refine compare_any.mono ?_; rintro e w' ⟨rfl, hb⟩)
                go_ret
                exact ⟨ret_boolH (by simp [holdsB]), (((Below.refl _ _).alloc (Nat.le_refl _) _).alloc (by simp) _).trans (hb.below.mono (by go_size))⟩
              · have h : holdsB how k k (cmpV k n s a0 a1 a2 a3 a4 a5 a6 a7 k n' s' b0 b1 b2 b3 b4 b5 b6 b7) = false := by simp [holdsB, h1, h2, h3, h4, h5, h6]
                rw [h]
                clear h
                have g1 : (how == 1) = false := by simpa using h1
                have g2 : (how == 2) = false := by simpa using h2
                have g3 : (how == 3) = false := by simpa using h3
                have g4 : (how == 4) = false := by simpa using h4
                have g5 : (how == 5) = false := by simpa using h5
                have g6 : (how == 6) = false := by simpa using h6
                clear h1 h2 h3 h4 h5 h6
                go_enter Try.func107, Try.ntmps107
                go_wp2_with (go_at_call 63; refine compare_any.mono ?_; rintro e w' ⟨rfl, hb⟩)
                go_ret
                exact ⟨rfl, (((Below.refl _ _).alloc (Nat.le_refl _) _).alloc (by simp) _).trans (hb.below.mono (by go_size))⟩
  · have h : holdsB how k k' (cmpV k n s a0 a1 a2 a3 a4 a5 a6 a7 k' n' s' b0 b1 b2 b3 b4 b5 b6 b7) = false := by simp [holdsB, hk]
    rw [h]
    have hk' : (k != k') = true := by simpa using hk
    go_enter Try.func107, Try.ntmps107
    go_wp2
    go_ret
    exact ⟨rfl, ((Below.refl _ _).alloc (Nat.le_refl _) _).alloc (by simp) _⟩
end Go.Proofs.Ytcidijjbcebcbaa.TN
namespace Go.Proofs.Ytcidijjbcebcbaa.TN
open Go.RowKit

set_option maxHeartbeats 400000 in
theorem rholds_any {how : Int} {k n : Int} {s : ByteArray} {a0 a1 a2 a3 a4 a5 a6 a7 : Int} {k' n' : Int} {s' : ByteArray} {b0 b1 b2 b3 b4 b5 b6 b7 : Int} {w : World} (hs : s.size ≤ maxLen) (hs' : s'.size ≤ maxLen) :
    Calls Try.prog 47 #[.int .i64 how, V k n s a0 a1 a2 a3 a4 a5 a6 a7, V k' n' s' b0 b1 b2 b3 b4 b5 b6 b7] w fun e w' => e = .returned (.bool (holdsB how k k' (cmpV k n s a0 a1 a2 a3 a4 a5 a6 a7 k' n' s' b0 b1 b2 b3 b4 b5 b6 b7))) ∧ Below w.heap.size w w' := by
  by_cases hk : k = k'
  · subst hk
    by_cases h1 : how = 1
    · subst h1
      go_enter Try.func47, Try.ntmps47
      go_wp2_with (go_at_call 34; refine (rcompare_any hs hs').mono ?_; rintro e w' ⟨rfl, hb⟩)
      go_ret
      exact ⟨ret_bool (by simp [holdsB]), (((Below.refl _ _).alloc (Nat.le_refl _) _).alloc (by simp) _).trans (hb.mono (by go_size))⟩
    · by_cases h2 : how = 2
      · subst h2
        go_enter Try.func47, Try.ntmps47
        go_wp2_with (go_at_call 34; refine (rcompare_any hs hs').mono ?_; rintro e w' ⟨rfl, hb⟩)
        go_ret
        exact ⟨ret_bool (by simp [holdsB]), (((Below.refl _ _).alloc (Nat.le_refl _) _).alloc (by simp) _).trans (hb.mono (by go_size))⟩
      · by_cases h3 : how = 3
        · subst h3
          go_enter Try.func47, Try.ntmps47
          go_wp2_with (go_at_call 34; refine (rcompare_any hs hs').mono ?_; rintro e w' ⟨rfl, hb⟩)
          go_ret
          exact ⟨ret_bool (by simp [holdsB]), (((Below.refl _ _).alloc (Nat.le_refl _) _).alloc (by simp) _).trans (hb.mono (by go_size))⟩
        · by_cases h4 : how = 4
          · subst h4
            go_enter Try.func47, Try.ntmps47
            go_wp2_with (go_at_call 34; refine (rcompare_any hs hs').mono ?_; rintro e w' ⟨rfl, hb⟩)
            go_ret
            exact ⟨ret_bool (by simp [holdsB]), (((Below.refl _ _).alloc (Nat.le_refl _) _).alloc (by simp) _).trans (hb.mono (by go_size))⟩
          · by_cases h5 : how = 5
            · subst h5
              go_enter Try.func47, Try.ntmps47
              go_wp2_with (go_at_call 34; refine (rcompare_any hs hs').mono ?_; rintro e w' ⟨rfl, hb⟩)
              go_ret
              exact ⟨ret_bool (by simp [holdsB]), (((Below.refl _ _).alloc (Nat.le_refl _) _).alloc (by simp) _).trans (hb.mono (by go_size))⟩
            · by_cases h6 : how = 6
              · subst h6
                go_enter Try.func47, Try.ntmps47
                go_wp2_with (go_at_call 34; refine (rcompare_any hs hs').mono ?_; rintro e w' ⟨rfl, hb⟩)
                go_ret
                exact ⟨ret_bool (by simp [holdsB]), (((Below.refl _ _).alloc (Nat.le_refl _) _).alloc (by simp) _).trans (hb.mono (by go_size))⟩
              · have h : holdsB how k k (cmpV k n s a0 a1 a2 a3 a4 a5 a6 a7 k n' s' b0 b1 b2 b3 b4 b5 b6 b7) = false := by simp [holdsB, h1, h2, h3, h4, h5, h6]
                rw [h]
                clear h
                have g1 : (how == 1) = false := by simpa using h1
                have g2 : (how == 2) = false := by simpa using h2
                have g3 : (how == 3) = false := by simpa using h3
                have g4 : (how == 4) = false := by simpa using h4
                have g5 : (how == 5) = false := by simpa using h5
                have g6 : (how == 6) = false := by simpa using h6
                clear h1 h2 h3 h4 h5 h6
                go_enter Try.func47, Try.ntmps47
                go_wp2_with (go_at_call 34; refine (rcompare_any hs hs').mono ?_; rintro e w' ⟨rfl, hb⟩)
                go_ret
                exact ⟨rfl, (((Below.refl _ _).alloc (Nat.le_refl _) _).alloc (by simp) _).trans (hb.mono (by go_size))⟩
  · have h : holdsB how k k' (cmpV k n s a0 a1 a2 a3 a4 a5 a6 a7 k' n' s' b0 b1 b2 b3 b4 b5 b6 b7) = false := by simp [holdsB, hk]
    rw [h]
    have hk' : (k != k') = true := by simpa using hk
    go_enter Try.func47, Try.ntmps47
    go_wp2
    go_ret
    exact ⟨rfl, ((Below.refl _ _).alloc (Nat.le_refl _) _).alloc (by simp) _⟩
end Go.Proofs.Ytcidijjbcebcbaa.TN
