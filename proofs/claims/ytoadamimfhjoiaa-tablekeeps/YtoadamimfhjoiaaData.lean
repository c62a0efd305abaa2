/-
  Tables as plain data: values, their order, rows, their order, and canonical order: one list for all orders in which the rows stood.
-/
import Derived.Test.YtoadamimfhjoiaaKit
namespace Go.Proofs.Ytoadamimfhjoiaa
open Go.RowKit

structure Vl where
  k : Int
  n : Int
  s : ByteArray
  h0 : Int
  h1 : Int
  h2 : Int
  h3 : Int
  h4 : Int
  h5 : Int
  h6 : Int
  h7 : Int
  small : s.size ≤ maxLen
abbrev Vl.val (v : Vl) : Value := V v.k v.n v.s v.h0 v.h1 v.h2 v.h3 v.h4 v.h5 v.h6 v.h7
def Vl.cells (v : Vl) : List Value := [.int .i64 v.k, .int .i64 v.n, .string v.s, .int .i64 v.h0, .int .i64 v.h1, .int .i64 v.h2, .int .i64 v.h3, .int .i64 v.h4, .int .i64 v.h5, .int .i64 v.h6, .int .i64 v.h7]
def cmpL (x y : Vl) : Int := cmpV x.k x.n x.s x.h0 x.h1 x.h2 x.h3 x.h4 x.h5 x.h6 x.h7 y.k y.n y.s y.h0 y.h1 y.h2 y.h3 y.h4 y.h5 y.h6 y.h7
def validL (x : Vl) : Bool := validB x.k x.n x.s x.h0 x.h1 x.h2 x.h3 x.h4 x.h5 x.h6 x.h7
def eqL (x y : Vl) : Bool := eqV x.k x.n x.s x.h0 x.h1 x.h2 x.h3 x.h4 x.h5 x.h6 x.h7 y.k y.n y.s y.h0 y.h1 y.h2 y.h3 y.h4 y.h5 y.h6 y.h7

theorem eqL_iff (x y : Vl) : eqL x y = true ↔ x = y := by
  cases x; cases y
  simp only [eqL, eqV, eqH, Bool.and_eq_true, decide_eq_true_eq, Vl.mk.injEq]
  constructor
  · rintro ⟨⟨h1, h2, h3⟩, h⟩; exact ⟨h1, h2, h3, h⟩
  · rintro ⟨h1, h2, h3, h⟩; exact ⟨⟨h1, h2, h3⟩, h⟩
theorem tri_cmpL (x y z : Vl) : tri (cmpL x y) (cmpL y z) (cmpL x z) := tri_cmpV ..
theorem neg_cmpL (x y : Vl) : cmpL y x = -cmpL x y := neg_cmpV ..
theorem cmpL_zero (x y : Vl) : cmpL x y = 0 ↔ x = y := by
  rw [← eqL_iff]
  unfold eqL cmpL
  rw [eqV_cmpV]; simp
theorem eqL_cmpL (x y : Vl) : eqL x y = (cmpL x y == 0) := by unfold eqL cmpL; rw [eqV_cmpV]
instance : DecidableEq Vl := fun x y => decidable_of_iff _ (eqL_iff x y)

abbrev Rw := List Vl
def cmpR : Rw → Rw → Int
  | [], [] => 0
  | [], _ :: _ => -1
  | _ :: _, [] => 1
  | a :: x, b :: y => thn (cmpL a b) (cmpR x y)
theorem three_of_tri {x y z : Int} (h : tri x y z) : x = -1 ∨ x = 0 ∨ x = 1 := h.1
theorem cmpR_three (x y : Rw) : cmpR x y = -1 ∨ cmpR x y = 0 ∨ cmpR x y = 1 := by
  induction x generalizing y with
  | nil => cases y <;> simp [cmpR]
  | cons a x ih =>
    cases y with
    | nil => simp [cmpR]
    | cons b y =>
      have h1 := three_of_tri (tri_cmpL a b b)
      have h2 := ih y
      simp only [cmpR, thn]; split <;> omega
theorem tri_cmpR (x y z : Rw) : tri (cmpR x y) (cmpR y z) (cmpR x z) := by
  induction x generalizing y z with
  | nil =>
    cases y with
    | nil => cases z <;> simp [tri, cmpR]
    | cons b y =>
      cases z with
      | nil => simp [tri, cmpR]
      | cons c z => exact tri_left (cmpR_three _ _)
  | cons a x ih =>
    cases y with
    | nil =>
      cases z with
      | nil => simp [tri, cmpR]
      | cons c z => exact tri_mid (cmpR_three _ _)
    | cons b y =>
      cases z with
      | nil => exact tri_right (cmpR_three _ _)
      | cons c z => exact tri_thn (tri_cmpL _ _ _) (ih _ _)
theorem neg_cmpR (x y : Rw) : cmpR y x = -cmpR x y := by
  induction x generalizing y with
  | nil => cases y <;> simp [cmpR]
  | cons a x ih =>
    cases y with
    | nil => simp [cmpR]
    | cons b y => exact neg_thn (neg_cmpL _ _) (ih _)
theorem cmpR_zero (x y : Rw) : cmpR x y = 0 ↔ x = y := by
  induction x generalizing y with
  | nil => cases y <;> simp [cmpR]
  | cons a x ih =>
    cases y with
    | nil => simp [cmpR]
    | cons b y => simp only [cmpR, thn_zero_iff, cmpL_zero, ih, List.cons.injEq]

/- Canonical order. -/
def sortR (l : List Rw) : List Rw := l.mergeSort fun x y => decide (cmpR x y ≤ 0)
def upR (l : List Rw) : Prop := l.Pairwise fun x y => cmpR x y ≤ 0
theorem cmpR_trans {x y z : Rw} (h1 : cmpR x y ≤ 0) (h2 : cmpR y z ≤ 0) : cmpR x z ≤ 0 := by
  obtain ⟨a, b, c, d, e, f, g⟩ := tri_cmpR x y z
  omega
theorem sortR_perm (l : List Rw) : (sortR l).Perm l := List.mergeSort_perm _ _
theorem sortR_up (l : List Rw) : upR (sortR l) := by
  have := List.pairwise_mergeSort (le := fun x y => decide (cmpR x y ≤ 0)) (fun a b c h1 h2 => by simp at *; exact cmpR_trans h1 h2) (fun a b => by have := neg_cmpR a b; simp; omega) l
  exact this.imp fun h => by simpa using h
theorem up_unique {l m : List Rw} (hl : upR l) (hm : upR m) (hp : l.Perm m) : l = m :=
  List.Perm.eq_of_pairwise (le := fun x y => cmpR x y ≤ 0) (fun a b _ _ h1 h2 => (cmpR_zero a b).1 (by have := neg_cmpR a b; omega)) hl hm hp
theorem sortR_of {l m : List Rw} (hl : upR l) (hp : l.Perm m) : l = sortR m := up_unique hl (sortR_up m) (hp.trans (sortR_perm m).symm)
theorem sortR_perm_eq {l m : List Rw} (hp : l.Perm m) : sortR l = sortR m := sortR_of (sortR_up l) ((sortR_perm l).trans hp)
theorem sortR_length (l : List Rw) : (sortR l).length = l.length := (sortR_perm l).length_eq
theorem sortR_sortR (l : List Rw) : sortR (sortR l) = sortR l := sortR_perm_eq (sortR_perm l)

/- Columns. -/
structure Cl where
  nm : ByteArray
  kd : Int
  small : nm.size ≤ maxLen
def Cl.cells (c : Cl) : List Value := [.string c.nm, .int .i64 c.kd]
def eqC (x y : Cl) : Bool := decide (x.nm = y.nm ∧ x.kd = y.kd)
theorem eqC_iff (x y : Cl) : eqC x y = true ↔ x = y := by
  cases x; cases y; simp [eqC]
instance : DecidableEq Cl := fun x y => decidable_of_iff _ (eqC_iff x y)
end Go.Proofs.Ytoadamimfhjoiaa
