/-
  Tables as plain data: values, their order, rows, their order, and canonical order: one list for all orders in which the rows stood.
  How rows, columns and tables lie in memory.
-/
import Derived.Test.YtnjeocjachmbkaaPA
namespace Go.Proofs.Ytnjeocjachmbkaa
open Go.RowKit

structure Vl where
  k : Int
  n : Int
  s : ByteArray
  h0 : Int
  h1 : Int
  h2 : Int
  h3 : Int
  h4 : Int
  h5 : Int
  h6 : Int
  h7 : Int
  small : s.size ≤ maxLen
abbrev Vl.val (v : Vl) : Value := V v.k v.n v.s v.h0 v.h1 v.h2 v.h3 v.h4 v.h5 v.h6 v.h7
def Vl.cells (v : Vl) : List Value := [.int .i64 v.k, .int .i64 v.n, .string v.s, .int .i64 v.h0, .int .i64 v.h1, .int .i64 v.h2, .int .i64 v.h3, .int .i64 v.h4, .int .i64 v.h5, .int .i64 v.h6, .int .i64 v.h7]
def cmpL (x y : Vl) : Int := cmpV x.k x.n x.s x.h0 x.h1 x.h2 x.h3 x.h4 x.h5 x.h6 x.h7 y.k y.n y.s y.h0 y.h1 y.h2 y.h3 y.h4 y.h5 y.h6 y.h7
def validL (x : Vl) : Bool := validB x.k x.n x.s x.h0 x.h1 x.h2 x.h3 x.h4 x.h5 x.h6 x.h7
def eqL (x y : Vl) : Bool := eqV x.k x.n x.s x.h0 x.h1 x.h2 x.h3 x.h4 x.h5 x.h6 x.h7 y.k y.n y.s y.h0 y.h1 y.h2 y.h3 y.h4 y.h5 y.h6 y.h7

theorem eqL_iff (x y : Vl) : eqL x y = true ↔ x = y := by
  cases x; cases y
  simp only [eqL, eqV, eqH, Bool.and_eq_true, decide_eq_true_eq, Vl.mk.injEq]
  constructor
  · rintro ⟨⟨h1, h2, h3⟩, h⟩; exact ⟨h1, h2, h3, h⟩
  · rintro ⟨h1, h2, h3, h⟩; exact ⟨⟨h1, h2, h3⟩, h⟩
theorem tri_cmpL (x y z : Vl) : tri (cmpL x y) (cmpL y z) (cmpL x z) := tri_cmpV ..
theorem neg_cmpL (x y : Vl) : cmpL y x = -cmpL x y := neg_cmpV ..
theorem cmpL_zero (x y : Vl) : cmpL x y = 0 ↔ x = y := by
  rw [← eqL_iff]
  unfold eqL cmpL
  rw [eqV_cmpV]; simp
theorem eqL_cmpL (x y : Vl) : eqL x y = (cmpL x y == 0) := by unfold eqL cmpL; rw [eqV_cmpV]
instance : DecidableEq Vl := fun x y => decidable_of_iff _ (eqL_iff x y)

abbrev Rw := List Vl
def cmpR : Rw → Rw → Int
  | [], [] => 0
  | [], _ :: _ => -1
  | _ :: _, [] => 1
  | a :: x, b :: y => thn (cmpL a b) (cmpR x y)
theorem three_of_tri {x y z : Int} (h : tri x y z) : x = -1 ∨ x = 0 ∨ x = 1 := h.1
theorem cmpR_three (x y : Rw) : cmpR x y = -1 ∨ cmpR x y = 0 ∨ cmpR x y = 1 := by
  induction x generalizing y with
  | nil => cases y <;> simp [cmpR]
  | cons a x ih =>
    cases y with
    | nil => simp [cmpR]
    | cons b y =>
      have h1 := three_of_tri (tri_cmpL a b b)
      have h2 := ih y
      simp only [cmpR, thn]; split <;> omega
theorem tri_cmpR (x y z : Rw) : tri (cmpR x y) (cmpR y z) (cmpR x z) := by
  induction x generalizing y z with
  | nil =>
    cases y with
    | nil => cases z <;> simp [tri, cmpR]
    | cons b y =>
      cases z with
      | nil => simp [tri, cmpR]
      | cons c z => exact tri_left (cmpR_three _ _)
  | cons a x ih =>
    cases y with
    | nil =>
      cases z with
      | nil => simp [tri, cmpR]
      | cons c z => exact tri_mid (cmpR_three _ _)
    | cons b y =>
      cases z with
      | nil => exact tri_right (cmpR_three _ _)
      | cons c z => exact tri_thn (tri_cmpL _ _ _) (ih _ _)
theorem neg_cmpR (x y : Rw) : cmpR y x = -cmpR x y := by
  induction x generalizing y with
  | nil => cases y <;> simp [cmpR]
  | cons a x ih =>
    cases y with
    | nil => simp [cmpR]
    | cons b y => exact neg_thn (neg_cmpL _ _) (ih _)
theorem cmpR_zero (x y : Rw) : cmpR x y = 0 ↔ x = y := by
  induction x generalizing y with
  | nil => cases y <;> simp [cmpR]
  | cons a x ih =>
    cases y with
    | nil => simp [cmpR]
    | cons b y => simp only [cmpR, thn_zero_iff, cmpL_zero, ih, List.cons.injEq]

/- Canonical order. -/
def sortR (l : List Rw) : List Rw := l.mergeSort fun x y => decide (cmpR x y ≤ 0)
def upR (l : List Rw) : Prop := l.Pairwise fun x y => cmpR x y ≤ 0
theorem cmpR_trans {x y z : Rw} (h1 : cmpR x y ≤ 0) (h2 : cmpR y z ≤ 0) : cmpR x z ≤ 0 := by
  obtain ⟨a, b, c, d, e, f, g⟩ := tri_cmpR x y z
  omega
theorem sortR_perm (l : List Rw) : (sortR l).Perm l := List.mergeSort_perm _ _
theorem sortR_up (l : List Rw) : upR (sortR l) := by
  have := List.pairwise_mergeSort (le := fun x y => decide (cmpR x y ≤ 0)) (fun a b c h1 h2 => by simp at *; exact cmpR_trans h1 h2) (fun a b => by have := neg_cmpR a b; simp; omega) l
  exact this.imp fun h => by simpa using h
theorem up_unique {l m : List Rw} (hl : upR l) (hm : upR m) (hp : l.Perm m) : l = m :=
  List.Perm.eq_of_pairwise (le := fun x y => cmpR x y ≤ 0) (fun a b _ _ h1 h2 => (cmpR_zero a b).1 (by have := neg_cmpR a b; omega)) hl hm hp
theorem sortR_of {l m : List Rw} (hl : upR l) (hp : l.Perm m) : l = sortR m := up_unique hl (sortR_up m) (hp.trans (sortR_perm m).symm)
theorem sortR_perm_eq {l m : List Rw} (hp : l.Perm m) : sortR l = sortR m := sortR_of (sortR_up l) ((sortR_perm l).trans hp)
theorem sortR_length (l : List Rw) : (sortR l).length = l.length := (sortR_perm l).length_eq
theorem sortR_sortR (l : List Rw) : sortR (sortR l) = sortR l := sortR_perm_eq (sortR_perm l)

/- Columns. -/
structure Cl where
  nm : ByteArray
  kd : Int
  small : nm.size ≤ maxLen
def Cl.cells (c : Cl) : List Value := [.string c.nm, .int .i64 c.kd]
def eqC (x y : Cl) : Bool := decide (x.nm = y.nm ∧ x.kd = y.kd)
theorem eqC_iff (x y : Cl) : eqC x y = true ↔ x = y := by
  cases x; cases y; simp [eqC]
instance : DecidableEq Cl := fun x y => decidable_of_iff _ (eqC_iff x y)
end Go.Proofs.Ytnjeocjachmbkaa
namespace Go.Proofs.Ytnjeocjachmbkaa
open Go.RowKit Go.Sort

/- Cells one behind the other. -/
def CellsAt (w : World) (b o : Nat) (xs : List Value) : Prop := ∀ (j : Nat) u, xs[j]? = some u → w.cell? ⟨b, o + j, none⟩ = some u
theorem CellsAt.on {w w' : World} {b o : Nat} {xs : List Value} (h : CellsAt w b o xs) (hb : Below w.heap.size w w') : CellsAt w' b o xs := fun j u hj => by
  have := h j u hj
  exact (hb.cell (p := ⟨b, o + j, none⟩) (block_lt_of_cell this)).trans this
/- How many bytes an element of k cells takes, for the three kinds of slices here. -/
def bsz (k : Nat) : Nat := if k = 11 then 96 else 24
/- A slice of elements of k cells each, in a block of which Q holds. -/
def SlAt {α : Type} (Q : Nat → Prop) (enc : α → List Value) (k : Nat) (w : World) (v : Value) (xs : List α) : Prop :=
  ∃ (p : Option Addr) (cap : Nat), v = .slice p xs.length cap ∧ (xs.length ≤ cap ∧ (p = none → cap = 0)) ∧ xs.length ≤ maxLen ∧ (xs ≠ [] → ∃ b o, p = some ⟨b, o, none⟩ ∧ (Q b ∧ xs.length * bsz k ≤ 140737488355328) ∧ ∀ (j : Nat) x, xs[j]? = some x → CellsAt w b (o + j * k) (enc x))
theorem SlAt.on {α : Type} {Q : Nat → Prop} {enc : α → List Value} {k : Nat} {w w' : World} {v : Value} {xs : List α} (h : SlAt Q enc k w v xs) (hb : Below w.heap.size w w') : SlAt Q enc k w' v xs := by
  obtain ⟨p, cap, hv, hc, hm, hx⟩ := h
  exact ⟨p, cap, hv, hc, hm, fun hne => let ⟨b, o, hp, hQ, hj⟩ := hx hne; ⟨b, o, hp, hQ, fun j x hjx => (hj j x hjx).on hb⟩⟩
theorem SlAt.imp {α : Type} {Q Q' : Nat → Prop} {enc : α → List Value} {k : Nat} {w : World} {v : Value} {xs : List α} (h : SlAt Q enc k w v xs) (hq : ∀ b, Q b → Q' b) : SlAt Q' enc k w v xs := by
  obtain ⟨p, cap, hv, hc, hm, hx⟩ := h
  exact ⟨p, cap, hv, hc, hm, fun hne => let ⟨b, o, hp, hQ, hj⟩ := hx hne; ⟨b, o, hp, ⟨hq b hQ.1, hQ.2⟩, hj⟩⟩
def any (_ : Nat) : Prop := True
def RowIn (Q : Nat → Prop) (w : World) (v : Value) (r : Rw) : Prop := SlAt Q Vl.cells 11 w v r
abbrev RowAt := RowIn any
theorem RowIn.on {Q : Nat → Prop} {w w' : World} {v : Value} {r : Rw} (h : RowIn Q w v r) (hb : Below w.heap.size w w') : RowIn Q w' v r := SlAt.on h hb
theorem RowIn.imp {Q Q' : Nat → Prop} {w : World} {v : Value} {r : Rw} (h : RowIn Q w v r) (hq : ∀ b, Q b → Q' b) : RowIn Q' w v r := SlAt.imp h hq
theorem RowIn.at {Q : Nat → Prop} {w : World} {v : Value} {r : Rw} (h : RowIn Q w v r) : RowAt w v r := h.imp fun _ _ => trivial
def ColsAt (w : World) (v : Value) (cs : List Cl) : Prop := SlAt any Cl.cells 2 w v cs
theorem ColsAt.on {w w' : World} {v : Value} {cs : List Cl} (h : ColsAt w v cs) (hb : Below w.heap.size w w') : ColsAt w' v cs := SlAt.on h hb
/- One header a row. -/
def HeadsIn (Q : Nat → Prop) (w : World) (hs : List Value) (rs : List Rw) : Prop := hs.length = rs.length ∧ ∀ (j : Nat) h r, hs[j]? = some h → rs[j]? = some r → RowIn Q w h r
theorem HeadsIn.on {Q : Nat → Prop} {w w' : World} {hs : List Value} {rs : List Rw} (h : HeadsIn Q w hs rs) (hb : Below w.heap.size w w') : HeadsIn Q w' hs rs := ⟨h.1, fun j x r h1 h2 => (h.2 j x r h1 h2).on hb⟩
def one (v : Value) : List Value := [v]
def RowsAt (w : World) (v : Value) (rs : List Rw) : Prop := ∃ hs, SlAt any one 1 w v hs ∧ HeadsIn any w hs rs
theorem RowsAt.on {w w' : World} {v : Value} {rs : List Rw} (h : RowsAt w v rs) (hb : Below w.heap.size w w') : RowsAt w' v rs := let ⟨hs, h1, h2⟩ := h; ⟨hs, h1.on hb, h2.on hb⟩
def TabAt (w : World) (v : Value) (cs : List Cl) (rs : List Rw) : Prop := ∃ c r, v = .agg #[c, r] ∧ ColsAt w c cs ∧ RowsAt w r rs
theorem TabAt.on {w w' : World} {v : Value} {cs : List Cl} {rs : List Rw} (h : TabAt w v cs rs) (hb : Below w.heap.size w w') : TabAt w' v cs rs := let ⟨c, r, h0, h1, h2⟩ := h; ⟨c, r, h0, h1.on hb, h2.on hb⟩

/- The same, all of it in blocks of which Q holds. -/
def TabIn (Q : Nat → Prop) (w : World) (v : Value) (cs : List Cl) (rs : List Rw) : Prop := ∃ c r, v = .agg #[c, r] ∧ SlAt Q Cl.cells 2 w c cs ∧ ∃ hs, SlAt Q one 1 w r hs ∧ HeadsIn Q w hs rs
theorem HeadsIn.imp {Q Q' : Nat → Prop} {w : World} {hs : List Value} {rs : List Rw} (h : HeadsIn Q w hs rs) (hq : ∀ b, Q b → Q' b) : HeadsIn Q' w hs rs := ⟨h.1, fun j x r h1 h2 => (h.2 j x r h1 h2).imp hq⟩
theorem TabIn.on {Q : Nat → Prop} {w w' : World} {v : Value} {cs : List Cl} {rs : List Rw} (h : TabIn Q w v cs rs) (hb : Below w.heap.size w w') : TabIn Q w' v cs rs := let ⟨c, r, h0, h1, hs, h2, h3⟩ := h; ⟨c, r, h0, h1.on hb, hs, h2.on hb, h3.on hb⟩
theorem TabIn.imp {Q Q' : Nat → Prop} {w : World} {v : Value} {cs : List Cl} {rs : List Rw} (h : TabIn Q w v cs rs) (hq : ∀ b, Q b → Q' b) : TabIn Q' w v cs rs := let ⟨c, r, h0, h1, hs, h2, h3⟩ := h; ⟨c, r, h0, h1.imp hq, hs, h2.imp hq, h3.imp hq⟩
theorem TabIn.at {Q : Nat → Prop} {w : World} {v : Value} {cs : List Cl} {rs : List Rw} (h : TabIn Q w v cs rs) : TabAt w v cs rs := let ⟨c, r, h0, h1, hs, h2, h3⟩ := h.imp (Q' := any) (fun _ _ => trivial); ⟨c, r, h0, h1, hs, h2, h3⟩

/- What a walk wants of one element. -/
theorem cells_at {w : World} {b o : Nat} {xs : List Value} (h : CellsAt w b o xs) (i : Nat) {u : Value} (hu : xs[i]? = some u) : w.cell? ⟨b, o + i, none⟩ = some u := h i u hu
theorem col_cells {w : World} {b o : Nat} {c : Cl} (h : CellsAt w b o c.cells) : w.cell? ⟨b, o, none⟩ = some (.string c.nm) ∧ w.cell? ⟨b, o + 1, none⟩ = some (.int .i64 c.kd) := ⟨h 0 _ rfl, h 1 _ rfl⟩
structure ValCells (w : World) (b o : Nat) (v : Vl) : Prop where
  c0 : w.cell? ⟨b, o, none⟩ = some (.int .i64 v.k)
  c1 : w.cell? ⟨b, o + 1, none⟩ = some (.int .i64 v.n)
  c2 : w.cell? ⟨b, o + 2, none⟩ = some (.string v.s)
  c3 : w.cell? ⟨b, o + 3, none⟩ = some (.int .i64 v.h0)
  c4 : w.cell? ⟨b, o + 4, none⟩ = some (.int .i64 v.h1)
  c5 : w.cell? ⟨b, o + 5, none⟩ = some (.int .i64 v.h2)
  c6 : w.cell? ⟨b, o + 6, none⟩ = some (.int .i64 v.h3)
  c7 : w.cell? ⟨b, o + 7, none⟩ = some (.int .i64 v.h4)
  c8 : w.cell? ⟨b, o + 8, none⟩ = some (.int .i64 v.h5)
  c9 : w.cell? ⟨b, o + 9, none⟩ = some (.int .i64 v.h6)
  c10 : w.cell? ⟨b, o + 10, none⟩ = some (.int .i64 v.h7)
theorem val_cells {w : World} {b o : Nat} {v : Vl} (h : CellsAt w b o v.cells) : ValCells w b o v :=
  ⟨h 0 _ rfl, h 1 _ rfl, h 2 _ rfl, h 3 _ rfl, h 4 _ rfl, h 5 _ rfl, h 6 _ rfl, h 7 _ rfl, h 8 _ rfl, h 9 _ rfl, h 10 _ rfl⟩
end Go.Proofs.Ytnjeocjachmbkaa
