/-
  The order of values: one of three answers, its opposite the other way round, nought just for the same value, and what stands ahead of what stands ahead does so itself.
-/
import Derived.Test.YtoadamimfhjoiaaCmp
namespace Go.Proofs.Ytoadamimfhjoiaa

/- The order of values is one: each of its parts is, and one part behind another. -/
def tri (x y z : Int) : Prop :=
  (x = -1 ∨ x = 0 ∨ x = 1) ∧ (y = -1 ∨ y = 0 ∨ y = 1) ∧ (z = -1 ∨ z = 0 ∨ z = 1) ∧
  (x = 0 → z = y) ∧ (y = 0 → z = x) ∧ (x = -1 → y = -1 → z = -1) ∧ (x = 1 → y = 1 → z = 1)
theorem tri_cmpI (a b c : Int) : tri (cmpI a b) (cmpI b c) (cmpI a c) := by
  unfold tri cmpI
  repeat' split
  all_goals omega
theorem tri_thn {x y z x' y' z' : Int} (h : tri x y z) (h' : tri x' y' z') : tri (thn x x') (thn y y') (thn z z') := by
  obtain ⟨hx, hy, hz, h1, h2, h3, h4⟩ := h
  obtain ⟨hx', hy', hz', h1', h2', h3', h4'⟩ := h'
  rcases hx with rfl | rfl | rfl <;> rcases hy with rfl | rfl | rfl <;> rcases hz with rfl | rfl | rfl <;>
    first
    | (exfalso; clear hx' hy' hz' h1' h2' h3' h4'; omega)
    | (simp only [thn]; refine ⟨?_, ?_, ?_, ?_, ?_, ?_, ?_⟩ <;> simp <;> omega)
theorem cmpFrom_thn (x y : Nat → Int) (m k : Nat) : cmpFrom x y (m + 1) k = thn (cmpI (x k) (y k)) (cmpFrom x y m (k + 1)) := by
  unfold thn
  simp only [cmpFrom]
  by_cases h : x k = y k
  · simp [h, cmpI]
  · rw [if_neg h, if_neg (fun e => by have := cmpI_ne h; simp [e] at this)]
theorem tri_cmpFrom (x y z : Nat → Int) (m k : Nat) : tri (cmpFrom x y m k) (cmpFrom y z m k) (cmpFrom x z m k) := by
  induction m generalizing k with
  | zero => unfold tri; simp [cmpFrom]
  | succ m ih => simp only [cmpFrom_thn]; exact tri_thn (tri_cmpI _ _ _) (ih _)
theorem cmpB_thn (a b : UInt8) (x y : List UInt8) : cmpB (a :: x) (b :: y) = thn (cmpI (a.toNat : Int) (b.toNat : Int)) (cmpB x y) := by
  simp only [cmpB, thn, cmpI, UInt8.lt_iff_toNat_lt]
  repeat' split
  all_goals first | rfl | omega
theorem tri_left {y : Int} (h : y = -1 ∨ y = 0 ∨ y = 1) : tri (-1) y (-1) := by unfold tri; omega
theorem tri_right {x : Int} (h : x = -1 ∨ x = 0 ∨ x = 1) : tri x 1 1 := by unfold tri; omega
theorem tri_mid {z : Int} (h : z = -1 ∨ z = 0 ∨ z = 1) : tri 1 (-1) z := by unfold tri; omega
theorem tri_cmpB (x y z : List UInt8) : tri (cmpB x y) (cmpB y z) (cmpB x z) := by
  induction x generalizing y z with
  | nil =>
    cases y with
    | nil => cases z <;> simp [tri, cmpB]
    | cons b y =>
      cases z with
      | nil => simp [tri, cmpB]
      | cons c z => exact tri_left (cmpB_three _ _)
  | cons a x ih =>
    cases y with
    | nil =>
      cases z with
      | nil => simp [tri, cmpB]
      | cons c z => exact tri_mid (cmpB_three _ _)
    | cons b y =>
      cases z with
      | nil => exact tri_right (cmpB_three _ _)
      | cons c z => simp only [cmpB_thn]; exact tri_thn (tri_cmpI _ _ _) (ih _ _)
theorem neg_cmpI (a b : Int) : cmpI b a = -cmpI a b := by
  unfold cmpI
  repeat' split
  all_goals omega
theorem neg_thn {x y x' y' : Int} (h : y = -x) (h' : y' = -x') : thn y y' = -thn x x' := by
  unfold thn
  repeat' split
  all_goals omega
theorem neg_cmpFrom (x y : Nat → Int) (m k : Nat) : cmpFrom y x m k = -cmpFrom x y m k := by
  induction m generalizing k with
  | zero => simp [cmpFrom]
  | succ m ih => simp only [cmpFrom_thn]; exact neg_thn (neg_cmpI _ _) (ih _)
theorem neg_cmpB (x y : List UInt8) : cmpB y x = -cmpB x y := by
  induction x generalizing y with
  | nil => cases y <;> simp [cmpB]
  | cons a x ih =>
    cases y with
    | nil => simp [cmpB]
    | cons b y => simp only [cmpB_thn]; exact neg_thn (neg_cmpI _ _) (ih _)
section
variable (k n : Int) (s : ByteArray) (a0 a1 a2 a3 a4 a5 a6 a7 : Int) (k' n' : Int) (s' : ByteArray) (b0 b1 b2 b3 b4 b5 b6 b7 : Int) (k'' n'' : Int) (s'' : ByteArray) (c0 c1 c2 c3 c4 c5 c6 c7 : Int)
theorem tri_cmpV : tri (cmpV k n s a0 a1 a2 a3 a4 a5 a6 a7 k' n' s' b0 b1 b2 b3 b4 b5 b6 b7) (cmpV k' n' s' b0 b1 b2 b3 b4 b5 b6 b7 k'' n'' s'' c0 c1 c2 c3 c4 c5 c6 c7) (cmpV k n s a0 a1 a2 a3 a4 a5 a6 a7 k'' n'' s'' c0 c1 c2 c3 c4 c5 c6 c7) :=
  tri_thn (tri_cmpI _ _ _) (tri_thn (tri_cmpI _ _ _) (tri_thn (tri_cmpB _ _ _) (tri_cmpFrom _ _ _ _ _)))
theorem neg_cmpV : cmpV k' n' s' b0 b1 b2 b3 b4 b5 b6 b7 k n s a0 a1 a2 a3 a4 a5 a6 a7 = -cmpV k n s a0 a1 a2 a3 a4 a5 a6 a7 k' n' s' b0 b1 b2 b3 b4 b5 b6 b7 :=
  neg_thn (neg_cmpI _ _) (neg_thn (neg_cmpI _ _) (neg_thn (neg_cmpB _ _) (neg_cmpFrom _ _ _ _)))
theorem cmpI_zero (a b : Int) : cmpI a b = 0 ↔ a = b := by
  unfold cmpI
  repeat' split
  all_goals omega
theorem thn_zero_iff (x y : Int) : thn x y = 0 ↔ x = 0 ∧ y = 0 := by
  unfold thn
  split <;> omega
theorem eqV_cmpV : eqV k n s a0 a1 a2 a3 a4 a5 a6 a7 k' n' s' b0 b1 b2 b3 b4 b5 b6 b7 = (cmpV k n s a0 a1 a2 a3 a4 a5 a6 a7 k' n' s' b0 b1 b2 b3 b4 b5 b6 b7 == 0) := by
  rw [Bool.eq_iff_iff]
  unfold cmpV eqV eqH cmpS
  simp only [cmpFrom_thn]
  simp only [Bool.and_eq_true, decide_eq_true_eq, beq_iff_eq, thn_zero_iff, cmpI_zero, cmpB_zero, cmpFrom, nth8, and_true]
  constructor
  · rintro ⟨⟨rfl, rfl, rfl⟩, h⟩; exact ⟨rfl, rfl, rfl, h⟩
  · rintro ⟨h1, h2, h3, h⟩; exact ⟨⟨h1, h2, bytes_toList_inj h3⟩, h⟩
end
end Go.Proofs.Ytoadamimfhjoiaa
