/-
  Tables as plain data: values, their order, rows, their order, and canonical order: one list for all orders in which the rows stood.
  How rows, columns and tables lie in memory.
  What table.Name and the reference's Name return, for every text.
  The contracts of Go's library that this program calls, laid at its numbers.
  What table.Find and the reference's Find return, for all columns and every name.
  Slices that a call makes for itself: what append and Go's slices.Clone leave.
  What Go's slices.Clone returns, for columns and for rows.
-/
import Derived.Test.YtcidijjbcebcbaaProg
import Derived.Test.YtcidijjbcebcbaaKH09
import Derived.Shelf.Slices.Turned
import Derived.Shelf.SlicesQ.Equal
import Derived.Shelf.SlicesQ.IndexFunc
import Derived.Shelf.SlicesE.Clone
import Derived.Laws.AppendOwnNone
import Derived.OwnWalk
import Derived.Lib.SmallJoins
namespace Go.Proofs.Ytcidijjbcebcbaa.TN
open Go.RowKit

structure Vl where
  k : Int
  n : Int
  s : ByteArray
  h0 : Int
  h1 : Int
  h2 : Int
  h3 : Int
  h4 : Int
  h5 : Int
  h6 : Int
  h7 : Int
  small : s.size ≤ maxLen
abbrev Vl.val (v : Vl) : Value := V v.k v.n v.s v.h0 v.h1 v.h2 v.h3 v.h4 v.h5 v.h6 v.h7
def Vl.cells (v : Vl) : List Value := [.int .i64 v.k, .int .i64 v.n, .string v.s, .int .i64 v.h0, .int .i64 v.h1, .int .i64 v.h2, .int .i64 v.h3, .int .i64 v.h4, .int .i64 v.h5, .int .i64 v.h6, .int .i64 v.h7]
def cmpL (x y : Vl) : Int := cmpV x.k x.n x.s x.h0 x.h1 x.h2 x.h3 x.h4 x.h5 x.h6 x.h7 y.k y.n y.s y.h0 y.h1 y.h2 y.h3 y.h4 y.h5 y.h6 y.h7
def validL (x : Vl) : Bool := validB x.k x.n x.s x.h0 x.h1 x.h2 x.h3 x.h4 x.h5 x.h6 x.h7
def eqL (x y : Vl) : Bool := eqV x.k x.n x.s x.h0 x.h1 x.h2 x.h3 x.h4 x.h5 x.h6 x.h7 y.k y.n y.s y.h0 y.h1 y.h2 y.h3 y.h4 y.h5 y.h6 y.h7

theorem eqL_iff (x y : Vl) : eqL x y = true ↔ x = y := by
  cases x; cases y
  simp only [eqL, eqV, eqH, Bool.and_eq_true, decide_eq_true_eq, Vl.mk.injEq]
  constructor
  · rintro ⟨⟨h1, h2, h3⟩, h⟩; exact ⟨h1, h2, h3, h⟩
  · rintro ⟨h1, h2, h3, h⟩; exact ⟨⟨h1, h2, h3⟩, h⟩
theorem tri_cmpL (x y z : Vl) : tri (cmpL x y) (cmpL y z) (cmpL x z) := tri_cmpV ..
theorem neg_cmpL (x y : Vl) : cmpL y x = -cmpL x y := neg_cmpV ..
theorem cmpL_zero (x y : Vl) : cmpL x y = 0 ↔ x = y := by
  rw [← eqL_iff]
  unfold eqL cmpL
  rw [eqV_cmpV]; simp
theorem eqL_cmpL (x y : Vl) : eqL x y = (cmpL x y == 0) := by unfold eqL cmpL; rw [eqV_cmpV]
instance : DecidableEq Vl := fun x y => decidable_of_iff _ (eqL_iff x y)

abbrev Rw := List Vl
def cmpR : Rw → Rw → Int
  | [], [] => 0
  | [], _ :: _ => -1
  | _ :: _, [] => 1
  | a :: x, b :: y => thn (cmpL a b) (cmpR x y)
theorem three_of_tri {x y z : Int} (h : tri x y z) : x = -1 ∨ x = 0 ∨ x = 1 := h.1
theorem cmpR_three (x y : Rw) : cmpR x y = -1 ∨ cmpR x y = 0 ∨ cmpR x y = 1 := by
  induction x generalizing y with
  | nil => cases y <;> simp [cmpR]
  | cons a x ih =>
    cases y with
    | nil => simp [cmpR]
    | cons b y =>
      have h1 := three_of_tri (tri_cmpL a b b)
      have h2 := ih y
      simp only [cmpR, thn]; split <;> omega
theorem tri_cmpR (x y z : Rw) : tri (cmpR x y) (cmpR y z) (cmpR x z) := by
  induction x generalizing y z with
  | nil =>
    cases y with
    | nil => cases z <;> simp [tri, cmpR]
    | cons b y =>
      cases z with
      | nil => simp [tri, cmpR]
      | cons c z => exact tri_left (cmpR_three _ _)
  | cons a x ih =>
    cases y with
    | nil =>
      cases z with
      | nil => simp [tri, cmpR]
      | cons c z => exact tri_mid (cmpR_three _ _)
    | cons b y =>
      cases z with
      | nil => exact tri_right (cmpR_three _ _)
      | cons c z => exact tri_thn (tri_cmpL _ _ _) (ih _ _)
theorem neg_cmpR (x y : Rw) : cmpR y x = -cmpR x y := by
  induction x generalizing y with
  | nil => cases y <;> simp [cmpR]
  | cons a x ih =>
    cases y with
    | nil => simp [cmpR]
    | cons b y => exact neg_thn (neg_cmpL _ _) (ih _)
theorem cmpR_zero (x y : Rw) : cmpR x y = 0 ↔ x = y := by
  induction x generalizing y with
  | nil => cases y <;> simp [cmpR]
  | cons a x ih =>
    cases y with
    | nil => simp [cmpR]
    | cons b y => simp only [cmpR, thn_zero_iff, cmpL_zero, ih, List.cons.injEq]

/- Canonical order. -/
def sortR (l : List Rw) : List Rw := l.mergeSort fun x y => decide (cmpR x y ≤ 0)
def upR (l : List Rw) : Prop := l.Pairwise fun x y => cmpR x y ≤ 0
theorem cmpR_trans {x y z : Rw} (h1 : cmpR x y ≤ 0) (h2 : cmpR y z ≤ 0) : cmpR x z ≤ 0 := by
  obtain ⟨a, b, c, d, e, f, g⟩ := tri_cmpR x y z
  omega
theorem sortR_perm (l : List Rw) : (sortR l).Perm l := List.mergeSort_perm _ _
theorem sortR_up (l : List Rw) : upR (sortR l) := by
  have := List.pairwise_mergeSort (le := fun x y => decide (cmpR x y ≤ 0)) (fun a b c h1 h2 => by simp at *; exact cmpR_trans h1 h2) (fun a b => by have := neg_cmpR a b; simp; omega) l
  exact this.imp fun h => by simpa using h
theorem up_unique {l m : List Rw} (hl : upR l) (hm : upR m) (hp : l.Perm m) : l = m :=
  List.Perm.eq_of_pairwise (le := fun x y => cmpR x y ≤ 0) (fun a b _ _ h1 h2 => (cmpR_zero a b).1 (by have := neg_cmpR a b; omega)) hl hm hp
theorem sortR_of {l m : List Rw} (hl : upR l) (hp : l.Perm m) : l = sortR m := up_unique hl (sortR_up m) (hp.trans (sortR_perm m).symm)
theorem sortR_perm_eq {l m : List Rw} (hp : l.Perm m) : sortR l = sortR m := sortR_of (sortR_up l) ((sortR_perm l).trans hp)
theorem sortR_length (l : List Rw) : (sortR l).length = l.length := (sortR_perm l).length_eq
theorem sortR_sortR (l : List Rw) : sortR (sortR l) = sortR l := sortR_perm_eq (sortR_perm l)

/- Columns. -/
structure Cl where
  nm : ByteArray
  kd : Int
  small : nm.size ≤ maxLen
def Cl.cells (c : Cl) : List Value := [.string c.nm, .int .i64 c.kd]
def eqC (x y : Cl) : Bool := decide (x.nm = y.nm ∧ x.kd = y.kd)
theorem eqC_iff (x y : Cl) : eqC x y = true ↔ x = y := by
  cases x; cases y; simp [eqC]
instance : DecidableEq Cl := fun x y => decidable_of_iff _ (eqC_iff x y)
end Go.Proofs.Ytcidijjbcebcbaa.TN
namespace Go.Proofs.Ytcidijjbcebcbaa.TN
open Go.RowKit Go.Sort

/- Cells one behind the other. -/
def CellsAt (w : World) (b o : Nat) (xs : List Value) : Prop := ∀ (j : Nat) u, xs[j]? = some u → w.cell? ⟨b, o + j, none⟩ = some u
theorem CellsAt.on {w w' : World} {b o : Nat} {xs : List Value} (h : CellsAt w b o xs) (hb : Below w.heap.size w w') : CellsAt w' b o xs := fun j u hj => by
  have := h j u hj
  exact (hb.cell (p := ⟨b, o + j, none⟩) (block_lt_of_cell this)).trans this
/- How many bytes an element of k cells takes, for the three kinds of slices here. -/
def bsz (k : Nat) : Nat := if k = 11 then 96 else 24
/- A slice of elements of k cells each, in a block of which Q holds. -/
def SlAt {α : Type} (Q : Nat → Prop) (enc : α → List Value) (k : Nat) (w : World) (v : Value) (xs : List α) : Prop :=
  ∃ (p : Option Addr) (cap : Nat), v = .slice p xs.length cap ∧ (xs.length ≤ cap ∧ (p = none → cap = 0)) ∧ xs.length ≤ maxLen ∧ (xs ≠ [] → ∃ b o, p = some ⟨b, o, none⟩ ∧ (Q b ∧ xs.length * bsz k ≤ 140737488355328) ∧ ∀ (j : Nat) x, xs[j]? = some x → CellsAt w b (o + j * k) (enc x))
theorem SlAt.on {α : Type} {Q : Nat → Prop} {enc : α → List Value} {k : Nat} {w w' : World} {v : Value} {xs : List α} (h : SlAt Q enc k w v xs) (hb : Below w.heap.size w w') : SlAt Q enc k w' v xs := by
  obtain ⟨p, cap, hv, hc, hm, hx⟩ := h
  exact ⟨p, cap, hv, hc, hm, fun hne => let ⟨b, o, hp, hQ, hj⟩ := hx hne; ⟨b, o, hp, hQ, fun j x hjx => (hj j x hjx).on hb⟩⟩
theorem SlAt.imp {α : Type} {Q Q' : Nat → Prop} {enc : α → List Value} {k : Nat} {w : World} {v : Value} {xs : List α} (h : SlAt Q enc k w v xs) (hq : ∀ b, Q b → Q' b) : SlAt Q' enc k w v xs := by
  obtain ⟨p, cap, hv, hc, hm, hx⟩ := h
  exact ⟨p, cap, hv, hc, hm, fun hne => let ⟨b, o, hp, hQ, hj⟩ := hx hne; ⟨b, o, hp, ⟨hq b hQ.1, hQ.2⟩, hj⟩⟩
def any (_ : Nat) : Prop := True
def RowIn (Q : Nat → Prop) (w : World) (v : Value) (r : Rw) : Prop := SlAt Q Vl.cells 11 w v r
abbrev RowAt := RowIn any
theorem RowIn.on {Q : Nat → Prop} {w w' : World} {v : Value} {r : Rw} (h : RowIn Q w v r) (hb : Below w.heap.size w w') : RowIn Q w' v r := SlAt.on h hb
theorem RowIn.imp {Q Q' : Nat → Prop} {w : World} {v : Value} {r : Rw} (h : RowIn Q w v r) (hq : ∀ b, Q b → Q' b) : RowIn Q' w v r := SlAt.imp h hq
theorem RowIn.at {Q : Nat → Prop} {w : World} {v : Value} {r : Rw} (h : RowIn Q w v r) : RowAt w v r := h.imp fun _ _ => trivial
def ColsAt (w : World) (v : Value) (cs : List Cl) : Prop := SlAt any Cl.cells 2 w v cs
theorem ColsAt.on {w w' : World} {v : Value} {cs : List Cl} (h : ColsAt w v cs) (hb : Below w.heap.size w w') : ColsAt w' v cs := SlAt.on h hb
/- One header a row. -/
def HeadsIn (Q : Nat → Prop) (w : World) (hs : List Value) (rs : List Rw) : Prop := hs.length = rs.length ∧ ∀ (j : Nat) h r, hs[j]? = some h → rs[j]? = some r → RowIn Q w h r
theorem HeadsIn.on {Q : Nat → Prop} {w w' : World} {hs : List Value} {rs : List Rw} (h : HeadsIn Q w hs rs) (hb : Below w.heap.size w w') : HeadsIn Q w' hs rs := ⟨h.1, fun j x r h1 h2 => (h.2 j x r h1 h2).on hb⟩
def one (v : Value) : List Value := [v]
def RowsAt (w : World) (v : Value) (rs : List Rw) : Prop := ∃ hs, SlAt any one 1 w v hs ∧ HeadsIn any w hs rs
theorem RowsAt.on {w w' : World} {v : Value} {rs : List Rw} (h : RowsAt w v rs) (hb : Below w.heap.size w w') : RowsAt w' v rs := let ⟨hs, h1, h2⟩ := h; ⟨hs, h1.on hb, h2.on hb⟩
def TabAt (w : World) (v : Value) (cs : List Cl) (rs : List Rw) : Prop := ∃ c r, v = .agg #[c, r] ∧ ColsAt w c cs ∧ RowsAt w r rs
theorem TabAt.on {w w' : World} {v : Value} {cs : List Cl} {rs : List Rw} (h : TabAt w v cs rs) (hb : Below w.heap.size w w') : TabAt w' v cs rs := let ⟨c, r, h0, h1, h2⟩ := h; ⟨c, r, h0, h1.on hb, h2.on hb⟩

/- The same, all of it in blocks of which Q holds. -/
def TabIn (Q : Nat → Prop) (w : World) (v : Value) (cs : List Cl) (rs : List Rw) : Prop := ∃ c r, v = .agg #[c, r] ∧ SlAt Q Cl.cells 2 w c cs ∧ ∃ hs, SlAt Q one 1 w r hs ∧ HeadsIn Q w hs rs
theorem HeadsIn.imp {Q Q' : Nat → Prop} {w : World} {hs : List Value} {rs : List Rw} (h : HeadsIn Q w hs rs) (hq : ∀ b, Q b → Q' b) : HeadsIn Q' w hs rs := ⟨h.1, fun j x r h1 h2 => (h.2 j x r h1 h2).imp hq⟩
theorem TabIn.on {Q : Nat → Prop} {w w' : World} {v : Value} {cs : List Cl} {rs : List Rw} (h : TabIn Q w v cs rs) (hb : Below w.heap.size w w') : TabIn Q w' v cs rs := let ⟨c, r, h0, h1, hs, h2, h3⟩ := h; ⟨c, r, h0, h1.on hb, hs, h2.on hb, h3.on hb⟩
theorem TabIn.imp {Q Q' : Nat → Prop} {w : World} {v : Value} {cs : List Cl} {rs : List Rw} (h : TabIn Q w v cs rs) (hq : ∀ b, Q b → Q' b) : TabIn Q' w v cs rs := let ⟨c, r, h0, h1, hs, h2, h3⟩ := h; ⟨c, r, h0, h1.imp hq, hs, h2.imp hq, h3.imp hq⟩
theorem TabIn.at {Q : Nat → Prop} {w : World} {v : Value} {cs : List Cl} {rs : List Rw} (h : TabIn Q w v cs rs) : TabAt w v cs rs := let ⟨c, r, h0, h1, hs, h2, h3⟩ := h.imp (Q' := any) (fun _ _ => trivial); ⟨c, r, h0, h1, hs, h2, h3⟩

/- What a walk wants of one element. -/
theorem cells_at {w : World} {b o : Nat} {xs : List Value} (h : CellsAt w b o xs) (i : Nat) {u : Value} (hu : xs[i]? = some u) : w.cell? ⟨b, o + i, none⟩ = some u := h i u hu
theorem col_cells {w : World} {b o : Nat} {c : Cl} (h : CellsAt w b o c.cells) : w.cell? ⟨b, o, none⟩ = some (.string c.nm) ∧ w.cell? ⟨b, o + 1, none⟩ = some (.int .i64 c.kd) := ⟨h 0 _ rfl, h 1 _ rfl⟩
structure ValCells (w : World) (b o : Nat) (v : Vl) : Prop where
  c0 : w.cell? ⟨b, o, none⟩ = some (.int .i64 v.k)
  c1 : w.cell? ⟨b, o + 1, none⟩ = some (.int .i64 v.n)
  c2 : w.cell? ⟨b, o + 2, none⟩ = some (.string v.s)
  c3 : w.cell? ⟨b, o + 3, none⟩ = some (.int .i64 v.h0)
  c4 : w.cell? ⟨b, o + 4, none⟩ = some (.int .i64 v.h1)
  c5 : w.cell? ⟨b, o + 5, none⟩ = some (.int .i64 v.h2)
  c6 : w.cell? ⟨b, o + 6, none⟩ = some (.int .i64 v.h3)
  c7 : w.cell? ⟨b, o + 7, none⟩ = some (.int .i64 v.h4)
  c8 : w.cell? ⟨b, o + 8, none⟩ = some (.int .i64 v.h5)
  c9 : w.cell? ⟨b, o + 9, none⟩ = some (.int .i64 v.h6)
  c10 : w.cell? ⟨b, o + 10, none⟩ = some (.int .i64 v.h7)
theorem val_cells {w : World} {b o : Nat} {v : Vl} (h : CellsAt w b o v.cells) : ValCells w b o v :=
  ⟨h 0 _ rfl, h 1 _ rfl, h 2 _ rfl, h 3 _ rfl, h 4 _ rfl, h 5 _ rfl, h 6 _ rfl, h 7 _ rfl, h 8 _ rfl, h 9 _ rfl, h 10 _ rfl⟩
end Go.Proofs.Ytcidijjbcebcbaa.TN
namespace Go.Proofs.Ytcidijjbcebcbaa.TN
open Go.RowKit Go.Sort

def letB (c : UInt8) : Bool := decide (97 ≤ c.toNat) && decide (c.toNat ≤ 122)
def nmB (c : UInt8) : Bool := letB c || (decide (48 ≤ c.toNat) && decide (c.toNat ≤ 57)) || decide (c.toNat = 95) || decide (c.toNat = 35)
def nameB (s : ByteArray) : Bool := decide (1 ≤ s.size ∧ s.size ≤ 24) && (letB (s.data.getD 0 0) && s.data.toList.all nmB)

set_option maxHeartbeats 400000 in
theorem isLetter_any {c : UInt8} {w : World} :
    Calls Try.prog 140 #[.int .u8 (c.toNat : Int)] w fun e w' => e = .returned (.bool (letB c)) ∧ w' = w := by
  generalize hr : letB c = r
  have HR := hid hr
  clear hr
  go_enter Try.func140, Try.ntmps140
  go_wp2
  all_goals
    go_ret
    refine ⟨ret_bool ?_, rfl⟩
    rw [← HR.out]
    unfold letB
    rw [Bool.eq_iff_iff]
    simp only [Bool.and_eq_true, decide_eq_true_eq, Bool.false_eq_true, false_iff]
    omega
theorem nmB_is {c : UInt8} {r : Bool} (h : (letB c || (decide (48 ≤ c.toNat) && decide (c.toNat ≤ 57)) || decide (c.toNat = 95) || decide (c.toNat = 35)) = r) : nmB c = r := h
set_option maxHeartbeats 400000 in
theorem isNameByte_any {c : UInt8} {w : World} :
    Calls Try.prog 141 #[.int .u8 (c.toNat : Int)] w fun e w' => e = .returned (.bool (nmB c)) ∧ w' = w := by
  generalize hr : nmB c = r
  have HR := hid hr
  clear hr
  go_enter Try.func141, Try.ntmps141
  go_wp2_with (go_at_call 140; refine isLetter_any.mono ?_; rintro e w' ⟨rfl, rfl⟩)
  all_goals
    go_ret
    refine ⟨ret_bool ?_, rfl⟩
    rw [← HR.out]
    unfold nmB
    rw [Bool.eq_iff_iff]
    simp only [Bool.or_eq_true, Bool.and_eq_true, decide_eq_true_eq, true_iff, beq_iff_eq]
    first | omega | (simp [*]; done) | (simp [*]; omega)
theorem all_upto {s : ByteArray} : s.data.toList.all nmB = true ↔ ∀ i (h : i < s.size), nmB s[i] = true := by
  rw [List.all_eq_true]
  constructor
  · intro h i hi
    exact h _ (Array.mem_toList_iff.2 (Array.getElem_mem (by exact hi)))
  · intro h c hc
    obtain ⟨i, hi, rfl⟩ := List.mem_iff_getElem.1 hc
    exact h i (by simpa using hi)
theorem nameB_first {s : ByteArray} (h : 0 < s.size) : s.data.getD 0 0 = s[0] := by
  have h' : 0 < s.data.size := h
  rw [← Array.getElem_eq_getD (h := h')]; rfl
theorem name_no {s : ByteArray} (h : ¬ (1 ≤ s.size ∧ s.size ≤ 24)) : nameB s = false := by simp [nameB, h]
theorem name_first {s : ByteArray} (h : 0 < s.size) (hl : letB s[0] = false) : nameB s = false := by simp [nameB, nameB_first h, hl]
theorem name_byte {s : ByteArray} {i : Nat} (h : i < s.size) (hl : nmB s[i] = false) : nameB s = false := by
  unfold nameB
  have : s.data.toList.all nmB = false := by
    rw [Bool.eq_false_iff]; intro hh; rw [all_upto] at hh; rw [hh i h] at hl; cases hl
  rw [this]; simp
theorem name_yes {s : ByteArray} (h : 1 ≤ s.size ∧ s.size ≤ 24) (hl : letB s[0] = true) (ha : ∀ i (h : i < s.size), nmB s[i] = true) : nameB s = true := by
  unfold nameB
  rw [nameB_first h.1, hl, all_upto.2 ha]; simp [h]
set_option maxHeartbeats 400000 in
theorem name_any {s : ByteArray} {w : World} (hs : s.size ≤ maxLen) :
    Calls Try.prog 121 #[.string s] w fun e w' => e = .returned (.bool (nameB s)) ∧ w' = w := by
  unfold maxLen at hs
  generalize hr : nameB s = r
  have HR := hid hr
  clear hr
  by_cases h1 : s.size < 1
  · have g1 : (s.size : Int) < 1 := by omega
    go_enter Try.func121, Try.ntmps121
    go_wp2
    go_ret
    exact ⟨ret_bool ((name_no (by omega)).symm.trans HR.out), rfl⟩
  · have g1 : ¬ (s.size : Int) < 1 := by omega
    by_cases h2 : 24 < s.size
    · have g2 : (24 : Int) < (s.size : Int) := by omega
      go_enter Try.func121, Try.ntmps121
      go_wp2
      go_ret
      exact ⟨ret_bool ((name_no (by omega)).symm.trans HR.out), rfl⟩
    · have g2 : ¬ (24 : Int) < (s.size : Int) := by omega
      have h0 : 0 < s.size := by omega
      cases hl : letB s[0] with
      | false =>
        go_enter Try.func121, Try.ntmps121
        go_wp2_with (go_at_call 140; refine isLetter_any.mono ?_; rintro e w' ⟨rfl, rfl⟩)
        go_ret
        exact ⟨ret_bool ((name_first (by omega) hl).symm.trans HR.out), rfl⟩
      | true =>
        go_enter Try.func121, Try.ntmps121
        go_wp2_with (go_at_call 140; refine isLetter_any.mono ?_; rintro e w' ⟨rfl, rfl⟩)
        go_loopw [20] (fun i wr => ∃ k : Nat, k ≤ s.size ∧ i = .int .i64 k ∧ wr = w' ∧ Hid (∀ i (h : i < s.size), i < k → nmB s[i] = true)) (fun i _ => s.size - (intOf i).toNat)
        case atStart => exact ⟨0, by omega, rfl, rfl, fun i _ h => absurd h (Nat.not_lt_zero _)⟩
        case round =>
          obtain ⟨k, hk, rfl, rfl, HA⟩ := hrel
          by_cases hlt : k < s.size
          · cases hb : nmB s[k] with
            | true =>
              go_wp2_with (go_at_call 141; refine isNameByte_any.mono ?_; rintro e w' ⟨rfl, rfl⟩)
              go_roundw
              case rel =>
                refine ⟨k + 1, by omega, by go_num, by trivial, fun i h hi => ?_⟩
                by_cases e : i = k
                · subst e; exact hb
                · exact HA.out i h (by omega)
              case measure => simp [intOf]; omega
            | false =>
              go_wp2_with (go_at_call 141; refine isNameByte_any.mono ?_; rintro e w' ⟨rfl, rfl⟩)
              go_ret
              exact ⟨ret_bool ((name_byte hlt hb).symm.trans HR.out), rfl⟩
          · have hks : k = s.size := by omega
            subst hks
            go_wp2
            go_ret
            exact ⟨ret_bool ((name_yes (by omega) hl (fun i h => HA.out i h h)).symm.trans HR.out), rfl⟩
set_option maxHeartbeats 400000 in
theorem rname_any {s : ByteArray} {w : World} (hs : s.size ≤ maxLen) :
    Calls Try.prog 99 #[.string s] w fun e w' => e = .returned (.bool (nameB s)) ∧ w' = w := by
  unfold maxLen at hs
  generalize hr : nameB s = r
  have HR := hid hr
  clear hr
  by_cases h1 : s.size < 1
  · have g1 : (s.size : Int) < 1 := by omega
    go_enter Try.func99, Try.ntmps99
    go_wp2
    go_ret
    exact ⟨ret_bool ((name_no (by omega)).symm.trans HR.out), rfl⟩
  · have g1 : ¬ (s.size : Int) < 1 := by omega
    by_cases h2 : 24 < s.size
    · have g2 : (24 : Int) < (s.size : Int) := by omega
      go_enter Try.func99, Try.ntmps99
      go_wp2
      go_ret
      exact ⟨ret_bool ((name_no (by omega)).symm.trans HR.out), rfl⟩
    · have g2 : ¬ (24 : Int) < (s.size : Int) := by omega
      have h0 : 0 < s.size := by omega
      cases hl : letB s[0] with
      | false =>
        have hl' := hl
        unfold letB at hl'
        have hlow : (s[0].toNat : Int) < 97 ∨ (¬ (s[0].toNat : Int) < 97 ∧ (122 : Int) < (s[0].toNat : Int)) := by simp at hl'; omega
        clear hl'
        have HL := hid hl
        clear hl
        rcases hlow with h3 | ⟨h3, h4⟩
        all_goals
          go_enter Try.func99, Try.ntmps99
          go_wp2
          go_ret
          exact ⟨ret_bool ((name_first (by omega) HL.out).symm.trans HR.out), rfl⟩
      | true =>
        have hl' := hl
        unfold letB at hl'
        have h3 : ¬ (s[0].toNat : Int) < 97 := by simp at hl'; omega
        have h4 : ¬ (122 : Int) < (s[0].toNat : Int) := by simp at hl'; omega
        clear hl'
        have HL := hid hl
        clear hl
        go_enter Try.func99, Try.ntmps99
        go_wp2
        go_loopw [3] (fun i wr => ∃ k : Nat, k ≤ s.size ∧ i = .int .i64 k ∧ wr = w ∧ Hid (∀ i (h : i < s.size), i < k → nmB s[i] = true)) (fun i _ => s.size - (intOf i).toNat)
        case atStart => exact ⟨0, by omega, rfl, rfl, fun i _ h => absurd h (Nat.not_lt_zero _)⟩
        case round =>
          obtain ⟨k, hk, rfl, rfl, HA⟩ := hrel
          by_cases hlt : k < s.size
          · cases hb : nmB s[k] with
            | true =>
              have hb' := hb
              unfold nmB letB at hb'
              simp only [Bool.or_eq_true, Bool.and_eq_true, decide_eq_true_eq] at hb'
              have HB := hid hb
              clear hb
              have hq : ((97 : Int) ≤ (s[k].toNat : Int) ∧ (s[k].toNat : Int) ≤ 122) ∨ ((s[k].toNat : Int) < 97 ∧ (48 : Int) ≤ (s[k].toNat : Int) ∧ (s[k].toNat : Int) ≤ 57) ∨ (s[k].toNat : Int) = 95 ∨ (s[k].toNat : Int) = 35 := by omega
              clear hb'
              rcases hq with ⟨q1, q2⟩ | ⟨q1, q2, q3⟩ | q1 | q1
              all_goals
                go_wp2
                go_roundw
                case rel =>
                  refine ⟨k + 1, by omega, by go_num, by trivial, fun i h hi => ?_⟩
                  by_cases e : i = k
                  · subst e; exact HB.out
                  · exact HA.out i h (by omega)
                case measure => simp [intOf]; omega
            | false =>
              have hb' := hb
              unfold nmB letB at hb'
              simp only [Bool.or_eq_false_iff, Bool.and_eq_false_iff, decide_eq_false_iff_not] at hb'
              have HB := hid hb
              clear hb
              have q5 : ((s[k].toNat : Int) == 95) = false := by rw [Bool.eq_false_iff]; intro e; have := beq_iff_eq.1 e; omega
              have q6 : ((s[k].toNat : Int) == 35) = false := by rw [Bool.eq_false_iff]; intro e; have := beq_iff_eq.1 e; omega
              have hq : (decide ((s[k].toNat : Int) ≤ 122) = false ∧ decide ((s[k].toNat : Int) ≤ 57) = false ∧ decide ((97 : Int) ≤ (s[k].toNat : Int)) = true ∧ decide ((48 : Int) ≤ (s[k].toNat : Int)) = true) ∨ (decide ((97 : Int) ≤ (s[k].toNat : Int)) = false ∧ decide ((48 : Int) ≤ (s[k].toNat : Int)) = true ∧ decide ((s[k].toNat : Int) ≤ 57) = false) ∨ (decide ((97 : Int) ≤ (s[k].toNat : Int)) = false ∧ decide ((48 : Int) ≤ (s[k].toNat : Int)) = false) := by simp only [decide_eq_false_iff_not, decide_eq_true_eq]; omega
              clear hb'
              rcases hq with ⟨q1, q2, q3, q4⟩ | ⟨q1, q2, q3⟩ | ⟨q1, q2⟩
              all_goals
                go_wp2
                go_ret
                exact ⟨ret_bool ((name_byte hlt HB.out).symm.trans HR.out), rfl⟩
          · have hks : k = s.size := by omega
            subst hks
            go_wp2
            go_ret
            exact ⟨ret_bool ((name_yes (by omega) HL.out (fun i h => HA.out i h h)).symm.trans HR.out), rfl⟩
end Go.Proofs.Ytcidijjbcebcbaa.TN
namespace Go.Proofs
open Go.Shelf
def Try.cloneC_ren : Go.Shelf.Ren := ⟨fun | 41 => 50 | n => n, fun | 22 => 25 | 23 => 61 | 4 => 4 | n => n, fun | n => n⟩
theorem Try.cloneC : Go.Proofs.SlLaysE0.n41 Try.prog Try.cloneC_ren := {
  mixed := by kernel_rfl
  f41 := ⟨Try.f50.name, by decide, Try.func50.trans (congrArg some (by kernel_rfl))⟩
  t4 := Try.underlying4
  a4 := Try.isAgg4
  z4 := Try.sizeOf4
  v4 := Try.zeroValue4
  t22 := Try.underlying25
  a22 := Try.isAgg25
  z22 := Try.sizeOf25
  v22 := Try.zeroValue25 }
def Try.cloneV_ren : Go.Shelf.Ren := ⟨fun | 41 => 49 | n => n, fun | 22 => 33 | 23 => 39 | 4 => 4 | n => n, fun | n => n⟩
theorem Try.cloneV : Go.Proofs.SlLaysE0.n41 Try.prog Try.cloneV_ren := {
  mixed := by kernel_rfl
  f41 := ⟨Try.f49.name, by decide, Try.func49.trans (congrArg some (by kernel_rfl))⟩
  t4 := Try.underlying4
  a4 := Try.isAgg4
  z4 := Try.sizeOf4
  v4 := Try.zeroValue4
  t22 := Try.underlying33
  a22 := Try.isAgg33
  z22 := Try.sizeOf33
  v22 := Try.zeroValue33 }
def Try.indexC_ren : Go.Shelf.Ren := ⟨fun | 6 => 92 | n => n, fun | 22 => 25 | 23 => 61 | 25 => 126 | 3 => 3 | 0 => 0 | 4 => 4 | n => n, fun | n => n⟩
theorem Try.indexC : Go.Proofs.SlLaysH0.n6 Try.prog Try.indexC_ren := {
  mixed := by kernel_rfl
  f6 := ⟨Try.f92.name, by decide, Try.func92.trans (congrArg some (by kernel_rfl))⟩
  t0 := Try.underlying0
  a0 := Try.isAgg0
  z0 := Try.sizeOf0
  v0 := Try.zeroValue0
  t3 := Try.underlying3
  a3 := Try.isAgg3
  z3 := Try.sizeOf3
  v3 := Try.zeroValue3
  t4 := Try.underlying4
  a4 := Try.isAgg4
  z4 := Try.sizeOf4
  v4 := Try.zeroValue4
  t22 := Try.underlying25
  a22 := Try.isAgg25
  z22 := Try.sizeOf25
  v22 := Try.zeroValue25
  t25 := Try.underlying126
  a25 := Try.isAgg126
  z25 := Try.sizeOf126
  v25 := Try.zeroValue126 }
end Go.Proofs
namespace Go.Proofs.Ytcidijjbcebcbaa.TN
open Go.RowKit Go.Sort Go.Shelf

instance : Inhabited Cl := ⟨⟨⟨#[]⟩, 0, by decide⟩⟩
def isNm (nm : ByteArray) (c : Cl) : Bool := decide (c.nm = nm)
def findC (cs : List Cl) (nm : ByteArray) : Int := Lib.idxBy (fun _ y => isNm nm y) cs default
theorem findC_hit {cs : List Cl} {nm : ByteArray} {k : Nat} (hk : k < cs.length) (h : isNm nm cs[k]! = true) (hne : ∀ j, j < k → isNm nm cs[j]! = false) : findC cs nm = k := by
  have := Lib.idxBy_hit (fun _ y => isNm nm y) cs cs.length k default hk (Nat.le_refl _) h hne
  rwa [List.take_length] at this
theorem findC_miss {cs : List Cl} {nm : ByteArray} (hne : ∀ j, j < cs.length → isNm nm cs[j]! = false) : findC cs nm = -1 := by
  have := Lib.idxBy_miss (fun _ y => isNm nm y) cs cs.length default hne
  rwa [List.take_length] at this
theorem get!_some {α : Type} [Inhabited α] {xs : List α} {j : Nat} (h : j < xs.length) : xs[j]? = some xs[j]! := by
  rw [List.getElem?_eq_getElem h, List.getElem!_eq_getElem?_getD, List.getElem?_eq_getElem h]; rfl

theorem isNm_bytes (nm : ByteArray) (c : Cl) : (c.nm.toList == nm.toList) = isNm nm c := bytes_beq _ _
set_option maxHeartbeats 400000 in
theorem findP (nm : ByteArray) (B : Nat) (w : World) (hB : w.cell? ⟨B, 0, none⟩ = some (.string nm)) :
    PredBelow Try.prog 93 #[.pointer (some ⟨B, 0, none⟩)] (fun x : Cl => .agg x.cells.toArray) (isNm nm) w := fun W x hb => by
  have hBl : B < w.heap.size := block_lt_of_cell hB
  have hc : W.cell? ⟨B, 0, none⟩ = some (.string nm) := (hb.cell (p := ⟨B, 0, none⟩) hBl).trans hB
  have hne : B ≠ W.heap.size := by have := hb.size; omega
  have hbl : B < W.heap.size := by have := hb.size; omega
  have hq := isNm_bytes nm x
  show Calls Try.prog 93 #[.agg #[.string x.nm, .int .i64 x.kd], .pointer (some ⟨B, 0, none⟩)] W _
  generalize isNm nm x = r at hq ⊢
  go_enter Try.func93, Try.ntmps93
  go_wp2
  go_ret
  exact ⟨rfl, hb.alloc hb.size _⟩
set_option maxHeartbeats 400000 in
theorem find_any {v : Value} {cs : List Cl} {nm : ByteArray} {w : World} (hv : ColsAt w v cs) :
    Calls Try.prog 57 #[v, .string nm] w fun e w' => e = .returned (.int .i64 (findC cs nm)) ∧ Below w.heap.size w w' := by
  obtain ⟨p, cap, rfl, hcap, hmax, hx⟩ := hv
  unfold maxLen at hmax
  generalize hr : findC cs nm = r
  have eg : ∀ args w, (callFunc 93 args).run Try.prog w = .ok (.enter 93 args) w := enters_of Try.func93 (by kernel_rfl) rfl
  have hcon : Calls Try.prog 92 #[.slice p cs.length cap, .func (.func 93) #[] #[.pointer (some ⟨w.heap.size, 0, none⟩)]] (w.alloc (.cells #[.string nm] 9)) fun e w' => e = .returned (.int .i64 r) ∧ Below (w.alloc (.cells #[.string nm] 9)).heap.size (w.alloc (.cells #[.string nm] 9)) w' := by
    rw [← hr]
    by_cases hn : cs = []
    · subst hn
      go_enter Try.func92, Try.ntmps92
      go_wp2
      refine wp_loop_rounds 1 ?_
      rw [rounds_succ]
      go_wp2
      go_ret
      exact ⟨rfl, Below.refl _ _⟩
    · obtain ⟨b, o, rfl, -, hj⟩ := hx hn
      have hb0 : b < w.heap.size := by
        have h0 : 0 < cs.length := List.length_pos_iff.2 hn
        exact block_lt_of_cell (hj 0 _ (get!_some h0) 0 _ rfl)
      have h := AnyQ.slices_IndexFunc Try.indexC 2 Try.isAgg61 Try.sizeOf61 Cl.cells (fun _ => rfl) (isNm nm) 93 #[.pointer (some ⟨w.heap.size, 0, none⟩)] eg b o cs.length cap cs (w.alloc (.cells #[.string nm] 9)) (findP nm w.heap.size _ (by simp)) (Nat.le_refl _) hmax (by simp; omega) (fun j hjl i u hu => Lib.cell?_alloc_some _ (hj j _ (get!_some hjl) i u hu))
      rw [List.take_length] at h
      exact h
  have HC := hid hcon
  clear hcon hx hr
  go_enter Try.func57, Try.ntmps57
  go_wp2_with (go_at_call 92; refine HC.out.mono ?_; rintro e w' ⟨rfl, hb'⟩)
  go_ret
  exact ⟨rfl, below_on ((Below.refl _ w).alloc (Nat.le_refl _) _) hb'⟩
set_option maxHeartbeats 400000 in
theorem rfind_any {v : Value} {cs : List Cl} {nm : ByteArray} {w : World} (hv : ColsAt w v cs) :
    Calls Try.prog 44 #[v, .string nm] w fun e w' => e = .returned (.int .i64 (findC cs nm)) ∧ Below w.heap.size w w' := by
  obtain ⟨p, cap, rfl, hcap, hmax, hx⟩ := hv
  unfold maxLen at hmax
  generalize hn : cs.length = n at *
  generalize hr : findC cs nm = r
  have HX := hid hx
  have HR := hid hr
  have HN := hid hn
  clear hx hr hn
  go_enter Try.func44, Try.ntmps44
  go_wp2
  go_loopw [5] (fun i wr => ∃ k : Nat, k ≤ n ∧ i = .int .i64 k ∧ Hid (Below w.heap.size w wr) ∧ Hid (∀ j, j < k → isNm nm cs[j]! = false)) (fun i _ => n - (intOf i).toNat)
  case atStart => exact ⟨0, by omega, rfl, Below.refl _ _, fun j h => absurd h (Nat.not_lt_zero _)⟩
  case round =>
    obtain ⟨k, hk, rfl, HB, HA⟩ := hrel
    by_cases hlt : k < n
    · have hkc : k < cs.length := by rw [HN.out]; exact hlt
      obtain ⟨b, o, rfl, -, hj⟩ := HX.out (by intro e; subst e; simp at hkc)
      have hc := (col_cells ((hj k _ (get!_some hkc)).on HB.out)).1
      have hq := isNm_bytes nm cs[k]!
      generalize hcc : cs[k]! = c at hc hq
      have HCC := hid hcc
      clear hcc hj
      cases hb : isNm nm c with
      | true =>
        rw [hb] at hq
        go_wp2
        go_ret
        exact ⟨ret_int ((findC_hit hkc (by rw [HCC.out]; exact hb) HA.out).symm.trans HR.out), HB.out⟩
      | false =>
        rw [hb] at hq
        go_wp2
        go_roundw
        case rel =>
          refine ⟨k + 1, by omega, by go_num, HB.out, fun j h => ?_⟩
          by_cases e : j = k
          · subst e; rw [HCC.out]; exact hb
          · exact HA.out j (by omega)
        case measure => simp [intOf]; omega
    · have hks : k = n := by omega
      subst hks
      go_wp2
      go_ret
      exact ⟨ret_int ((findC_miss (by rw [HN.out]; exact HA.out)).symm.trans HR.out), HB.out⟩
end Go.Proofs.Ytcidijjbcebcbaa.TN
namespace Go.Proofs.Ytcidijjbcebcbaa.TN
open Go.RowKit Go.Sort Go.Shelf

section
variable {α : Type} {enc : α → List Value} {k : Nat}
theorem flat_get (hk : ∀ x, (enc x).length = k) : ∀ (xs : List α) (j : Nat) x, xs[j]? = some x → ∀ (i : Nat) u, (enc x)[i]? = some u → (xs.flatMap enc)[j * k + i]? = some u
  | [], _, _, h, _, _, _ => by simp at h
  | y :: ys, 0, x, h, i, u, hi => by
    simp at h; subst h
    rw [List.flatMap_cons, Nat.zero_mul, Nat.zero_add, List.getElem?_append_left (by exact (List.getElem?_eq_some_iff.1 hi).1)]
    exact hi
  | y :: ys, j + 1, x, h, i, u, hi => by
    have ih := flat_get hk ys j x (by simpa using h) i u hi
    have e : (j + 1) * k + i = k + (j * k + i) := by rw [Nat.succ_mul]; omega
    rw [List.flatMap_cons, List.getElem?_append_right (by rw [hk]; omega), hk, e, Nat.add_sub_cancel_left]
    exact ih
theorem flat_cells (hk : ∀ x, (enc x).length = k) {w : World} {b : Nat} : ∀ (xs : List α) (o : Nat), (∀ (j : Nat) x, xs[j]? = some x → CellsAt w b (o + j * k) (enc x)) → CellsAt w b o (xs.flatMap enc)
  | [], _, _ => fun j u h => by simp at h
  | y :: ys, o, h => fun j u hj => by
    rw [List.flatMap_cons] at hj
    by_cases hlt : j < k
    · rw [List.getElem?_append_left (by rw [hk]; exact hlt)] at hj
      have := h 0 y rfl j u hj
      rwa [Nat.zero_mul, Nat.add_zero] at this
    · rw [List.getElem?_append_right (by rw [hk]; omega), hk] at hj
      have ih := flat_cells hk ys (o + k) (fun i x hx => by
        have := h (i + 1) x (by simpa using hx)
        have e : o + (i + 1) * k = o + k + i * k := by rw [Nat.succ_mul]; omega
        rwa [e] at this) (j - k) u hj
      have e : o + k + (j - k) = o + j := by omega
      rwa [e] at ih
theorem flat_length (hk : ∀ x, (enc x).length = k) (xs : List α) : (xs.flatMap enc).length = xs.length * k := by
  induction xs with
  | nil => simp
  | cons y ys ih => rw [List.flatMap_cons, List.length_append, hk, ih, List.length_cons, Nat.succ_mul]; omega
end
theorem vl_len (x : Vl) : x.cells.length = 11 := rfl
theorem cl_len (x : Cl) : x.cells.length = 2 := rfl
theorem one_len (x : Value) : (one x).length = 1 := rfl
/- What the program's table of types says of an element's type. -/
def Elem (t e k : Nat) : Prop := Try.prog.underlying t = some (.slice e) ∧ 0 < k ∧ ∃ i z, Try.prog.info? e = some i ∧ i.zero = some z ∧ i.size = k ∧ i.bytes ≤ bsz k ∧ z.cells.size = k
theorem info48 : (Try.prog.info? 39).map (fun i => (i.zero, i.size, i.bytes)) = some (some (V 0 0 ⟨#[]⟩ 0 0 0 0 0 0 0 0), 11, 96) := by kernel_rfl
theorem info45 : (Try.prog.info? 61).map (fun i => (i.zero, i.size, i.bytes)) = some (some (.agg #[.string ⟨#[]⟩, .int .i64 0]), 2, 24) := by kernel_rfl
theorem info35 : (Try.prog.info? 33).map (fun i => (i.zero, i.size, i.bytes)) = some (some (.slice none 0 0), 1, 24) := by kernel_rfl
theorem elem48 : Elem 33 39 11 := by
  obtain ⟨i, hi, h0, h1, h2⟩ := info_parts info48
  exact ⟨Try.underlying33, by omega, i, _, hi, h0, h1, Nat.le_of_eq h2, rfl⟩
theorem elem45 : Elem 25 61 2 := by
  obtain ⟨i, hi, h0, h1, h2⟩ := info_parts info45
  exact ⟨Try.underlying25, by omega, i, _, hi, h0, h1, Nat.le_of_eq h2, rfl⟩
theorem elem35 : Elem 26 33 1 := by
  obtain ⟨i, hi, h0, h1, h2⟩ := info_parts info35
  exact ⟨Try.underlying26, by omega, i, _, hi, h0, h1, Nat.le_of_eq h2, rfl⟩
theorem info3 : (Try.prog.info? 3).map (fun i => (i.zero, i.size, i.bytes)) = some (some (.int .i64 0), 1, 8) := by kernel_rfl
theorem info9 : (Try.prog.info? 9).map (fun i => (i.zero, i.size, i.bytes)) = some (some (.string ⟨#[]⟩), 1, 16) := by kernel_rfl
theorem elem3 : Elem 47 3 1 := by
  obtain ⟨i, hi, h0, h1, h2⟩ := info_parts info3
  exact ⟨Try.underlying47, by omega, i, _, hi, h0, h1, by rw [h2]; decide, rfl⟩
theorem elem9 : Elem 48 9 1 := by
  obtain ⟨i, hi, h0, h1, h2⟩ := info_parts info9
  exact ⟨Try.underlying48, by omega, i, _, hi, h0, h1, by rw [h2]; decide, rfl⟩
/- A slice of the call's own, of these elements. -/
def Own {α : Type} (enc : α → List Value) (k e : Nat) (B : Nat) (w : World) (v : Value) (xs : List α) : Prop := w.ownsRow B e k v xs.length (xs.flatMap enc)
theorem Own.sl {α : Type} {enc : α → List Value} {k e B : Nat} {w : World} {v : Value} {xs : List α} (h : Own enc k e B w v xs) (hk : ∀ x, (enc x).length = k) (hb : xs.length * bsz k ≤ 140737488355328) : SlAt (fun b => B ≤ b) enc k w v xs := by
  have hm : xs.length ≤ maxLen := by
    unfold maxLen; unfold bsz at hb; split at hb <;> omega
  rcases h.2 with ⟨hv, h0⟩ | ⟨g, cap, cur, hv, hg, hblk, hc, _⟩
  · have hn : xs = [] := List.eq_nil_of_length_eq_zero h0
    subst hn
    exact ⟨none, 0, hv, ⟨by simp, fun _ => rfl⟩, hm, fun hne => absurd rfl hne⟩
  · refine ⟨some ⟨g, 0, none⟩, cap, hv, ⟨hc, fun e => by cases e⟩, hm, fun _ => ⟨g, 0, rfl, ⟨hg, hb⟩, fun j x hx i u hi => ?_⟩⟩
    have := World.ownsRow.cells h (g := g) (by rw [hv]; rfl) (j * k + i) u (flat_get hk xs j x hx i u hi)
    rw [Addr.add_lit, Nat.zero_add] at this
    rw [Nat.zero_add]
    exact this
theorem Own.nil {α : Type} (enc : α → List Value) (k e B : Nat) (w : World) : Own enc k e B w (.slice none 0 0) ([] : List α) := World.ownsRow_nil w B e k
theorem Own.made {α : Type} (enc : α → List Value) (k e B : Nat) (w : World) (hb : B ≤ w.heap.size) : Own enc k e B (w.alloc (.cells #[] e)) (.slice (some ⟨w.heap.size, 0, none⟩) 0 0) ([] : List α) :=
  World.ownsRow_made w #[] 0 hb (Nat.zero_le _) (by simp)
theorem Own.lt {α : Type} {enc : α → List Value} {k e B : Nat} {w : World} {v : Value} {xs : List α} (h : Own enc k e B w v xs) : ∀ g, v.ownBlock = some g → B ≤ g := fun g hg => (World.ownsRow.lt h g hg).1
/- append(s, x...): s of the call's own, x any slice. -/
theorem app_any {ops : Array Oper} {rest : List Oper} {o : Oper} {a : Act} {Q : Exit → Act → World → Prop} {w : World} {α : Type} {enc : α → List Value} {k e t B : Nat} {Qb : Nat → Prop} {xs ys : List α} {v u : Value}
    (hE : Elem t e k) (hk : ∀ x, (enc x).length = k) (h1 : ∀ y ∈ ys, ∀ c ∈ enc y, c.oneCell' = true) (hgd : o.guard = none) (s x : Operand) (ho : o.op = .call { callee := .builtin .append, args := #[s, x], argTypes := #[t, t] })
    (hs : a.eval s = v) (hown : Own enc k e B w v xs) (hx : a.eval x = u) (hu : SlAt Qb enc k w u ys) (hb : (xs.length + ys.length) * bsz k ≤ 140737488355328) (hB : B ≤ w.heap.size)
    (h : ∀ v' w', Own enc k e B w' v' (xs ++ ys) → Below B w w' → wpList Try.prog ops Q rest (a.put o.dst v') w') : wpList Try.prog ops Q (o :: rest) a w := by
  obtain ⟨ht, hkp, i0, z, hi, hz0, hz1, hz2, hzs⟩ := hE
  obtain ⟨p, cap, rfl, ⟨hcap, hnone⟩, hmax, hy⟩ := hu
  cases p with
  | none =>
    have hn : ys = [] := by
      cases ys with
      | nil => rfl
      | cons y r => obtain ⟨b, o, hp, _⟩ := hy (by simp); cases hp
    subst hn
    have hc := hnone rfl
    subst hc
    refine wpList_append_own_none hgd s x t ho B e i0 k ht hi v xs.length _ hs hown (by rw [hx]; rfl) ?_
    have := h v w (by rw [List.append_nil]; exact hown) (Below.refl _ _)
    exact this
  | some ad =>
    refine wpList_append_own w hgd s x t ho B e i0 z k i0.bytes ht hi hz0 hz1 rfl hzs hkp v xs.length _ hs hown ad ys.length cap (ys.flatMap enc) hx (flat_length hk ys) ?_ ?_ ?_ (Nat.le_trans (Nat.mul_le_mul_left _ hz2) hb) hB ?_
    · intro j c hj
      have hne : ys ≠ [] := by intro e; subst e; simp at hj
      obtain ⟨b, o, hp, _, hcell⟩ := hy hne
      have hp' : ad = ⟨b, o, none⟩ := Option.some.inj hp
      rw [hp', Addr.add_lit]
      exact flat_cells hk ys o hcell j c hj
    · intro c hc
      obtain ⟨y, hy', hcy⟩ := List.mem_flatMap.1 hc
      exact h1 y hy' c hcy
    · unfold maxLen; unfold bsz at hb; split at hb <;> omega
    · intro v' w' h2 h3 _
      refine h v' w' ?_ ((Below.refl B w).grown h3 hB (fun j e => (hown.lt j e)))
      show w'.ownsRow B e k v' (xs ++ ys).length ((xs ++ ys).flatMap enc)
      rw [List.length_append, List.flatMap_append]; exact h2
theorem vl_cells (x : Vl) : ∀ c ∈ x.cells, c.oneCell' = true := by
  intro c hc; simp [Vl.cells] at hc; rcases hc with rfl | rfl | rfl | rfl | rfl | rfl | rfl | rfl | rfl | rfl | rfl <;> rfl
theorem cl_cells (x : Cl) : ∀ c ∈ x.cells, c.oneCell' = true := by
  intro c hc; simp [Cl.cells] at hc; rcases hc with rfl | rfl <;> rfl
end Go.Proofs.Ytcidijjbcebcbaa.TN
namespace Go.Proofs.Ytcidijjbcebcbaa.TN
open Go.RowKit Go.Sort Go.Shelf

theorem SlAt.bound {α : Type} {Q : Nat → Prop} {enc : α → List Value} {k : Nat} {w : World} {v : Value} {xs : List α} (h : SlAt Q enc k w v xs) : xs.length * bsz k ≤ 140737488355328 := by
  obtain ⟨p, cap, _, _, _, hx⟩ := h
  by_cases hn : xs = []
  · subst hn; simp
  · obtain ⟨_, _, _, hb, _⟩ := hx hn; exact hb.2
theorem SlAt.nil {α : Type} (Q : Nat → Prop) (enc : α → List Value) (k : Nat) (w : World) : SlAt Q enc k w (.slice none 0 0) ([] : List α) :=
  ⟨none, 0, rfl, ⟨Nat.le_refl _, fun _ => rfl⟩, Nat.zero_le _, fun h => absurd rfl h⟩
theorem SlAt.empty {α : Type} {Q : Nat → Prop} {enc : α → List Value} {k : Nat} {w : World} {cap : Nat} {xs : List α} {n : Nat} (h : SlAt Q enc k w (.slice none n cap) xs) : xs = [] := by
  obtain ⟨p, cap', hv, _, _, hx⟩ := h
  by_cases hn : xs = []
  · exact hn
  · obtain ⟨b, o, hp, _⟩ := hx hn
    subst hp; cases hv
set_option maxHeartbeats 400000 in
theorem cloneV_any {u : Value} {r : Rw} {w : World} (hu : RowAt w u r) :
    Calls Try.prog 49 #[u] w fun e w' => ∃ v', e = .returned v' ∧ RowIn (fun b => w.heap.size ≤ b) w' v' r ∧ Below w.heap.size w w' := by
  have HU := hid hu
  obtain ⟨p, cap, rfl, hcap, hmax, hx⟩ := hu
  clear hcap hmax hx
  generalize List.length r = n at *
  have q22 : ∀ (w : World) (a : Option Addr) (n c n' c' : Nat), (binOp .eql 33 (.slice a n c) (.slice none n' c')).run Try.prog w = .ok (.bool a.isNone) w := fun w a n c n' c' => Lib.run_eql_slice_nil w _ _ a n c n' c' Try.underlying33
  cases p with
  | none =>
    have hn := SlAt.empty HU.out
    subst hn
    go_enter Try.func49, Try.ntmps49
    go_wp2
    go_ret
    exact ⟨_, rfl, SlAt.nil _ _ _ _, Below.refl _ _⟩
  | some ad =>
    go_enter Try.func49, Try.ntmps49
    go_wp2_with (at_builtin; refine app_any elem48 vl_len (fun x _ => vl_cells x) rfl _ _ rfl rfl (Own.made Vl.cells 11 39 w.heap.size w (Nat.le_refl _)) rfl (SlAt.on HU.out ((Below.refl _ _).alloc (Nat.le_refl _) _)) (by simpa using SlAt.bound HU.out) (by simp) ?_; intro v' w1 hown hb1)
    go_ret
    exact ⟨_, rfl, Own.sl (by rw [List.nil_append] at hown; exact hown) vl_len (SlAt.bound HU.out), ((Below.refl _ _).alloc (Nat.le_refl _) _).trans hb1⟩
set_option maxHeartbeats 400000 in
theorem cloneC_any {u : Value} {r : List Cl} {w : World} (hu : ColsAt w u r) :
    Calls Try.prog 50 #[u] w fun e w' => ∃ v', e = .returned v' ∧ SlAt (fun b => w.heap.size ≤ b) Cl.cells 2 w' v' r ∧ Below w.heap.size w w' := by
  have HU := hid hu
  obtain ⟨p, cap, rfl, hcap, hmax, hx⟩ := hu
  clear hcap hmax hx
  generalize List.length r = n at *
  have q22 : ∀ (w : World) (a : Option Addr) (n c n' c' : Nat), (binOp .eql 25 (.slice a n c) (.slice none n' c')).run Try.prog w = .ok (.bool a.isNone) w := fun w a n c n' c' => Lib.run_eql_slice_nil w _ _ a n c n' c' Try.underlying25
  cases p with
  | none =>
    have hn := SlAt.empty HU.out
    subst hn
    go_enter Try.func50, Try.ntmps50
    go_wp2
    go_ret
    exact ⟨_, rfl, SlAt.nil _ _ _ _, Below.refl _ _⟩
  | some ad =>
    go_enter Try.func50, Try.ntmps50
    go_wp2_with (at_builtin; refine app_any elem45 cl_len (fun x _ => cl_cells x) rfl _ _ rfl rfl (Own.made Cl.cells 2 61 w.heap.size w (Nat.le_refl _)) rfl (SlAt.on HU.out ((Below.refl _ _).alloc (Nat.le_refl _) _)) (by simpa using SlAt.bound HU.out) (by simp) ?_; intro v' w1 hown hb1)
    go_ret
    exact ⟨_, rfl, Own.sl (by rw [List.nil_append] at hown; exact hown) cl_len (SlAt.bound HU.out), ((Below.refl _ _).alloc (Nat.le_refl _) _).trans hb1⟩
end Go.Proofs.Ytcidijjbcebcbaa.TN
