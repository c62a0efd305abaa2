/-
  Bytes that a call makes for itself by append, and what string(b) gives.
  Tables as plain data: values, their order, rows, their order, and canonical order: one list for all orders in which the rows stood.
  Numbers as bytes: what wire.appendNumber and the reference's big return.
  What wire.appendText and wire.appendValue return, for every text and every value.
  How rows, columns and tables lie in memory.
  The reader: what wire.demand and the reader's bytes and number return, or with what they panic.
-/
import Derived.Test.YtlbjbkhcnafhcaaGreatP02Cmp
import Derived.Laws.AppendOwnNone
import Derived.Laws.OwnMore
import Derived.OwnWalk
import Derived.Lib.SmallJoins
import Derived.Lib.OwnKind
import Derived.Lib.AppendStr
namespace Go.Proofs.YtlbjbkhcnafhcaaGreat.SN
open Go.RowKit Go.Sort

theorem BAt.take {w : World} {p : Option Addr} {n k cap : Nat} {xs : List UInt8} (hn : xs.length = n) (hk : k ≤ n) (h : BAt w (.slice p n cap) xs) : BAt w (.slice p k cap) (xs.take k) := by
  obtain ⟨p', cap', hv, hc, hno, hm, hx⟩ := h
  cases hv
  have hl : (xs.take k).length = k := by simp; omega
  refine ⟨p, cap, by rw [hl], by omega, hno, hm, fun hne => ?_⟩
  obtain ⟨a, ha, hj⟩ := hx (by intro e; subst e; simp at hne)
  refine ⟨a, ha, fun j x hjx => hj j x ?_⟩
  have hlt : j < k := by have := (List.getElem?_eq_some_iff.1 hjx).1; omega
  rwa [List.getElem?_take_of_lt hlt] at hjx
theorem add_add (a : Addr) (k j : Nat) : (a.add k).add j = a.add (k + j) := by
  unfold Addr.add
  by_cases hk : k = 0
  · subst hk; simp
  · by_cases hj : j = 0
    · subst hj; simp [hk]
    · simp [hk, hj, Nat.add_assoc]
theorem BAt.drop {w : World} {p : Option Addr} {n k cap : Nat} {xs : List UInt8} (hn : xs.length = n) (hk : k ≤ n) (h : BAt w (.slice p n cap) xs) : BAt w (.slice (if cap = k then p else Option.map (fun x => x.add k) p) (n - k) (cap - k)) (xs.drop k) := by
  obtain ⟨p', cap', hv, hc, hno, hm, hx⟩ := h
  cases hv
  have hl : (xs.drop k).length = xs.length - k := by simp
  refine ⟨_, _, by rw [hl], by omega, ?_, by omega, fun hne => ?_⟩
  · intro e
    split at e
    · omega
    · cases p with
      | none => have := hno rfl; omega
      | some a => cases e
  · have hlt : k < xs.length := by
      rcases Nat.lt_or_ge k xs.length with h | h
      · exact h
      · exact absurd (List.drop_eq_nil_of_le h) hne
    obtain ⟨a, rfl, hj⟩ := hx (by intro e; subst e; simp at hlt)
    rw [if_neg (by omega)]
    refine ⟨a.add k, rfl, fun j x hjx => ?_⟩
    rw [add_add]
    exact hj _ x (by rw [List.getElem?_drop] at hjx; exact hjx)
def bc (x : UInt8) : Value := .int .u8 (x.toNat : Int)
theorem info5 : (Tryz.prog.info? 5).map (fun i => (i.zero, i.size, i.bytes)) = some (some (.int .u8 0), 1, 1) := by kernel_rfl
def OwnB (B : Nat) (w : World) (v : Value) (xs : List UInt8) : Prop := w.ownsRow B 5 1 v xs.length (xs.map bc)
theorem OwnB.made (B : Nat) (w : World) (hb : B ≤ w.heap.size) : OwnB B (w.alloc (.cells #[] 5)) (.slice (some ⟨w.heap.size, 0, none⟩) 0 0) [] :=
  World.ownsRow_made w #[] 0 hb (Nat.zero_le _) (by simp)
theorem OwnB.lt {B : Nat} {w : World} {v : Value} {xs : List UInt8} (h : OwnB B w v xs) : ∀ g, v.ownBlock = some g → B ≤ g := fun g hg => (World.ownsRow.lt h g hg).1
theorem OwnB.bat {B : Nat} {w : World} {v : Value} {xs : List UInt8} (h : OwnB B w v xs) : BAt w v xs := by
  rcases h.2 with ⟨hv, h0⟩ | ⟨g, cap, cur, hv, hg, hblk, hc, hm, _⟩
  · exact ⟨none, 0, by rw [hv, h0], by omega, fun _ => rfl, Nat.zero_le _, fun hne => absurd (List.eq_nil_of_length_eq_zero h0) hne⟩
  · exact ⟨some ⟨g, 0, none⟩, cap, hv, hc, (fun e => by cases e), hm, fun _ => ⟨_, rfl, fun j x hj => World.ownsRow.cells h (by rw [hv]; rfl) j _ (by rw [List.getElem?_map, hj]; rfl)⟩⟩
/- append(s, x...): s of the call's own, x any slice. -/
theorem appB_any {ops : Array Oper} {rest : List Oper} {o : Oper} {a : Act} {Q : Exit → Act → World → Prop} {w : World} {B : Nat} {xs ys : List UInt8} {v y : Value}
    (hgd : o.guard = none) (s x : Operand) (ho : o.op = .call { callee := .builtin .append, args := #[s, x], argTypes := #[57, 57] })
    (hs : a.eval s = v) (hown : OwnB B w v xs) (hx : a.eval x = y) (hu : BAt w y ys) (hb : xs.length + ys.length ≤ 140737488355328) (hB : B ≤ w.heap.size)
    (h : ∀ v' w', OwnB B w' v' (xs ++ ys) → Below B w w' → wpList Tryz.prog ops Q rest (a.put o.dst v') w') : wpList Tryz.prog ops Q (o :: rest) a w := by
  obtain ⟨i0, hi, hz0, hz1, hz2⟩ := info_parts info5
  obtain ⟨p, cap, rfl, hcap, hnone, hmax, hy⟩ := hu
  cases p with
  | none =>
    have hn : ys = [] := by
      cases ys with
      | nil => rfl
      | cons y r => obtain ⟨b, hp, _⟩ := hy (by simp); cases hp
    subst hn
    have hc := hnone rfl
    subst hc
    refine wpList_append_own_none hgd s x 57 ho B 5 i0 1 Tryz.underlying57 hi v xs.length _ hs hown (by rw [hx]; rfl) ?_
    exact h v w (by rw [List.append_nil]; exact hown) (Below.refl _ _)
  | some ad =>
    refine wpList_append_own w hgd s x 57 ho B 5 i0 (.int .u8 0) 1 1 Tryz.underlying57 hi hz0 hz1 hz2 rfl (by omega) v xs.length _ hs hown ad ys.length cap (ys.map bc) hx (by simp) ?_ ?_ ?_ (by omega) hB ?_
    · intro j c hj
      have hne : ys ≠ [] := by intro e; subst e; simp at hj
      obtain ⟨b, hp, hcell⟩ := hy hne
      cases hp
      rw [List.getElem?_map] at hj
      cases hyj : ys[j]? with
      | none => rw [hyj] at hj; cases hj
      | some x => rw [hyj] at hj; cases hj; exact hcell j x hyj
    · intro c hc
      obtain ⟨y, _, rfl⟩ := List.mem_map.1 hc
      rfl
    · unfold maxLen; omega
    · intro v' w' h2 h3 _
      refine h v' w' ?_ ((Below.refl B w).grown h3 hB (fun j e => (hown.lt j e)))
      show w'.ownsRow B 5 1 v' (xs ++ ys).length ((xs ++ ys).map bc)
      rw [List.length_append, List.map_append]; exact h2
theorem conv_bat {w : World} {p : Option Addr} {n cap : Nat} {xs : List UInt8} (h : BAt w (.slice p n cap) xs) : (convert 57 9 (.slice p n cap)).run Tryz.prog w = .ok (.string ⟨xs.toArray⟩) w := by
  obtain ⟨p', cap', hv, hcap, hnone, hmax, hx⟩ := h
  cases hv
  cases p with
  | none =>
    have hn : xs = [] := by
      cases xs with
      | nil => rfl
      | cons y r => obtain ⟨b, hp, _⟩ := hx (by simp); cases hp
    subst hn
    show (convert 57 9 (.slice none 0 cap)).run Tryz.prog w = _
    rw [run_convert_bytes_string w 57 9 5 none 0 cap Tryz.underlying57 Tryz.underlying5 Tryz.underlying9]
    simp [Conv.bytesToString]
    rfl
  | some a =>
    refine run_convert_bytes_back w 57 9 5 a cap xs Tryz.underlying57 Tryz.underlying5 Tryz.underlying9 fun j hj => ?_
    obtain ⟨b, hp, hc⟩ := hx (by intro e; subst e; simp at hj)
    cases hp
    exact hc j _ (List.getElem?_eq_getElem hj)
end Go.Proofs.YtlbjbkhcnafhcaaGreat.SN
namespace Go.Proofs.YtlbjbkhcnafhcaaGreat
open Go.RowKit

structure Vl where
  k : Int
  n : Int
  s : ByteArray
  h0 : Int
  h1 : Int
  h2 : Int
  h3 : Int
  h4 : Int
  h5 : Int
  h6 : Int
  h7 : Int
  small : s.size ≤ maxLen
abbrev Vl.val (v : Vl) : Value := V v.k v.n v.s v.h0 v.h1 v.h2 v.h3 v.h4 v.h5 v.h6 v.h7
def Vl.cells (v : Vl) : List Value := [.int .i64 v.k, .int .i64 v.n, .string v.s, .int .i64 v.h0, .int .i64 v.h1, .int .i64 v.h2, .int .i64 v.h3, .int .i64 v.h4, .int .i64 v.h5, .int .i64 v.h6, .int .i64 v.h7]
def cmpL (x y : Vl) : Int := cmpV x.k x.n x.s x.h0 x.h1 x.h2 x.h3 x.h4 x.h5 x.h6 x.h7 y.k y.n y.s y.h0 y.h1 y.h2 y.h3 y.h4 y.h5 y.h6 y.h7
def validL (x : Vl) : Bool := validB x.k x.n x.s x.h0 x.h1 x.h2 x.h3 x.h4 x.h5 x.h6 x.h7
def eqL (x y : Vl) : Bool := eqV x.k x.n x.s x.h0 x.h1 x.h2 x.h3 x.h4 x.h5 x.h6 x.h7 y.k y.n y.s y.h0 y.h1 y.h2 y.h3 y.h4 y.h5 y.h6 y.h7

theorem eqL_iff (x y : Vl) : eqL x y = true ↔ x = y := by
  cases x; cases y
  simp only [eqL, eqV, eqH, Bool.and_eq_true, decide_eq_true_eq, Vl.mk.injEq]
  constructor
  · rintro ⟨⟨h1, h2, h3⟩, h⟩; exact ⟨h1, h2, h3, h⟩
  · rintro ⟨h1, h2, h3, h⟩; exact ⟨⟨h1, h2, h3⟩, h⟩
theorem tri_cmpL (x y z : Vl) : tri (cmpL x y) (cmpL y z) (cmpL x z) := tri_cmpV ..
theorem neg_cmpL (x y : Vl) : cmpL y x = -cmpL x y := neg_cmpV ..
theorem cmpL_zero (x y : Vl) : cmpL x y = 0 ↔ x = y := by
  rw [← eqL_iff]
  unfold eqL cmpL
  rw [eqV_cmpV]; simp
theorem eqL_cmpL (x y : Vl) : eqL x y = (cmpL x y == 0) := by unfold eqL cmpL; rw [eqV_cmpV]
instance : DecidableEq Vl := fun x y => decidable_of_iff _ (eqL_iff x y)

abbrev Rw := List Vl
def cmpR : Rw → Rw → Int
  | [], [] => 0
  | [], _ :: _ => -1
  | _ :: _, [] => 1
  | a :: x, b :: y => thn (cmpL a b) (cmpR x y)
theorem three_of_tri {x y z : Int} (h : tri x y z) : x = -1 ∨ x = 0 ∨ x = 1 := h.1
theorem cmpR_three (x y : Rw) : cmpR x y = -1 ∨ cmpR x y = 0 ∨ cmpR x y = 1 := by
  induction x generalizing y with
  | nil => cases y <;> simp [cmpR]
  | cons a x ih =>
    cases y with
    | nil => simp [cmpR]
    | cons b y =>
      have h1 := three_of_tri (tri_cmpL a b b)
      have h2 := ih y
      simp only [cmpR, thn]; split <;> omega
theorem tri_cmpR (x y z : Rw) : tri (cmpR x y) (cmpR y z) (cmpR x z) := by
  induction x generalizing y z with
  | nil =>
    cases y with
    | nil => cases z <;> simp [tri, cmpR]
    | cons b y =>
      cases z with
      | nil => simp [tri, cmpR]
      | cons c z => exact tri_left (cmpR_three _ _)
  | cons a x ih =>
    cases y with
    | nil =>
      cases z with
      | nil => simp [tri, cmpR]
      | cons c z => exact tri_mid (cmpR_three _ _)
    | cons b y =>
      cases z with
      | nil => exact tri_right (cmpR_three _ _)
      | cons c z => exact tri_thn (tri_cmpL _ _ _) (ih _ _)
theorem neg_cmpR (x y : Rw) : cmpR y x = -cmpR x y := by
  induction x generalizing y with
  | nil => cases y <;> simp [cmpR]
  | cons a x ih =>
    cases y with
    | nil => simp [cmpR]
    | cons b y => exact neg_thn (neg_cmpL _ _) (ih _)
theorem cmpR_zero (x y : Rw) : cmpR x y = 0 ↔ x = y := by
  induction x generalizing y with
  | nil => cases y <;> simp [cmpR]
  | cons a x ih =>
    cases y with
    | nil => simp [cmpR]
    | cons b y => simp only [cmpR, thn_zero_iff, cmpL_zero, ih, List.cons.injEq]

/- Canonical order. -/
def sortR (l : List Rw) : List Rw := l.mergeSort fun x y => decide (cmpR x y ≤ 0)
def upR (l : List Rw) : Prop := l.Pairwise fun x y => cmpR x y ≤ 0
theorem cmpR_trans {x y z : Rw} (h1 : cmpR x y ≤ 0) (h2 : cmpR y z ≤ 0) : cmpR x z ≤ 0 := by
  obtain ⟨a, b, c, d, e, f, g⟩ := tri_cmpR x y z
  omega
theorem sortR_perm (l : List Rw) : (sortR l).Perm l := List.mergeSort_perm _ _
theorem sortR_up (l : List Rw) : upR (sortR l) := by
  have := List.pairwise_mergeSort (le := fun x y => decide (cmpR x y ≤ 0)) (fun a b c h1 h2 => by simp at *; exact cmpR_trans h1 h2) (fun a b => by have := neg_cmpR a b; simp; omega) l
  exact this.imp fun h => by simpa using h
theorem up_unique {l m : List Rw} (hl : upR l) (hm : upR m) (hp : l.Perm m) : l = m :=
  List.Perm.eq_of_pairwise (le := fun x y => cmpR x y ≤ 0) (fun a b _ _ h1 h2 => (cmpR_zero a b).1 (by have := neg_cmpR a b; omega)) hl hm hp
theorem sortR_of {l m : List Rw} (hl : upR l) (hp : l.Perm m) : l = sortR m := up_unique hl (sortR_up m) (hp.trans (sortR_perm m).symm)
theorem sortR_perm_eq {l m : List Rw} (hp : l.Perm m) : sortR l = sortR m := sortR_of (sortR_up l) ((sortR_perm l).trans hp)
theorem sortR_length (l : List Rw) : (sortR l).length = l.length := (sortR_perm l).length_eq
theorem sortR_sortR (l : List Rw) : sortR (sortR l) = sortR l := sortR_perm_eq (sortR_perm l)

/- Columns. -/
structure Cl where
  nm : ByteArray
  kd : Int
  small : nm.size ≤ maxLen
def Cl.cells (c : Cl) : List Value := [.string c.nm, .int .i64 c.kd]
def eqC (x y : Cl) : Bool := decide (x.nm = y.nm ∧ x.kd = y.kd)
theorem eqC_iff (x y : Cl) : eqC x y = true ↔ x = y := by
  cases x; cases y; simp [eqC]
instance : DecidableEq Cl := fun x y => decidable_of_iff _ (eqC_iff x y)
end Go.Proofs.YtlbjbkhcnafhcaaGreat
namespace Go.Proofs.YtlbjbkhcnafhcaaGreat.SN
open Go.RowKit Go.Sort

theorem OwnB.on {B : Nat} {w w' : World} {v : Value} {xs : List UInt8} (h : OwnB B w v xs) (hb : Below w.heap.size w w') : OwnB B w' v xs := by
  refine ⟨h.1, ?_⟩
  rcases h.2 with h0 | ⟨g, cap, cur, hv, hg, hblk, hc⟩
  · exact .inl h0
  · exact .inr ⟨g, cap, cur, hv, hg, block_on hblk hb, hc⟩
theorem OwnB.alloc {B : Nat} {w : World} {v : Value} {xs : List UInt8} (h : OwnB B w v xs) (o : Obj) : OwnB B (w.alloc o) v xs := World.ownsRow.alloc h o
theorem OwnB.nil (B : Nat) (w : World) : OwnB B w (.slice none 0 0) [] := World.ownsRow_nil w B 5 1
theorem OwnB.le {B B' : Nat} {w : World} {v : Value} {xs : List UInt8} (h : OwnB B w v xs) (hb : B' ≤ B) : OwnB B' w v xs := by
  refine ⟨h.1, ?_⟩
  rcases h.2 with h0 | ⟨g, cap, cur, hv, hg, hblk, hc⟩
  · exact .inl h0
  · exact .inr ⟨g, cap, cur, hv, Nat.le_trans hb hg, hblk, hc⟩
theorem OwnB.form {B : Nat} {w : World} {v : Value} {xs : List UInt8} (h : OwnB B w v xs) : ∃ p cap, v = .slice p xs.length cap := by
  obtain ⟨p, cap, hv, _⟩ := h.bat
  exact ⟨p, cap, hv⟩
theorem bat_one {w : World} {x : UInt8} {E : Int} (h : E = (x.toNat : Int)) : BAt (w.alloc (.cells #[.int .u8 E] 5)) (.slice (some ⟨w.heap.size, 0, none⟩) 1 1) [x] := by
  subst h
  refine ⟨_, 1, rfl, by simp, (fun h => by cases h), by unfold maxLen; decide, fun _ => ⟨_, rfl, fun j y hj => ?_⟩⟩
  have hlt : j < 1 := (List.getElem?_eq_some_iff.1 hj).1
  obtain rfl : j = 0 := by omega
  simp at hj
  subst hj
  simp [Addr.add]
/- Nothing below B is turned, and no block that does not hold bytes. -/
structure Fr (B : Nat) (w w' : World) : Prop where
  low : Below B w w'
  k5 : ∀ (k : Nat) (cs : Array Value) (t : TypeId) (fz : Nat × Nat), w.heap[k]? = some (.cells cs t fz) → t ≠ 5 → w'.heap[k]? = some (.cells cs t fz)
theorem Fr.refl (B : Nat) (w : World) : Fr B w w := ⟨Below.refl B w, fun _ _ _ _ h _ => h⟩
theorem Fr.trans {B : Nat} {a b c : World} (h : Fr B a b) (k : Fr B b c) : Fr B a c := ⟨h.low.trans k.low, fun j cs t fz hj ht => k.k5 j cs t fz (h.k5 j cs t fz hj ht) ht⟩
theorem Fr.alloc {B : Nat} {a w : World} (h : Fr B a w) (hB : B ≤ w.heap.size) (o : Obj) : Fr B a (w.alloc o) :=
  ⟨h.low.alloc hB o, fun j cs t fz hj ht => by have := h.k5 j cs t fz hj ht; rw [Below.heap_alloc _ _ _ (lt_of_block this)]; exact this⟩
theorem Fr.size {B : Nat} {w w' : World} (h : Fr B w w') : w.heap.size ≤ w'.heap.size := h.low.size
theorem Fr.of {B : Nat} {w w' : World} (h : Below w.heap.size w w') (hB : B ≤ w.heap.size) : Fr B w w' := ⟨h.mono hB, fun _ _ _ _ hj _ => block_on hj h⟩
theorem fr_grown {B : Nat} {w w' : World} {v : Value} {xs : List UInt8} (hown : OwnB B w v xs) (hg : w.grownBy w' v.ownBlock) (hB : B ≤ w.heap.size) : Fr B w w' :=
  ⟨(Below.refl B w).grown hg hB (fun j e => hown.lt j e), fun k cs t fz hk ht => by
    have hne : some k ≠ v.ownBlock := by
      intro e
      obtain ⟨c, fz', hc⟩ := Lib.ownsRow_kind hown k e.symm
      rw [hk] at hc
      cases hc
      exact ht rfl
    exact (hg.block k (lt_of_block hk) hne).trans hk⟩
theorem appF_any {ops : Array Oper} {rest : List Oper} {o : Oper} {a : Act} {Q : Exit → Act → World → Prop} {w : World} {B : Nat} {xs ys : List UInt8} {v y : Value}
    (hgd : o.guard = none) (s x : Operand) (ho : o.op = .call { callee := .builtin .append, args := #[s, x], argTypes := #[57, 57] })
    (hs : a.eval s = v) (hown : OwnB B w v xs) (hx : a.eval x = y) (hu : BAt w y ys) (hb : xs.length + ys.length ≤ 140737488355328) (hB : B ≤ w.heap.size)
    (h : ∀ v' w', OwnB B w' v' (xs ++ ys) → Fr B w w' → wpList Tryz.prog ops Q rest (a.put o.dst v') w') : wpList Tryz.prog ops Q (o :: rest) a w := by
  obtain ⟨i0, hi, hz0, hz1, hz2⟩ := info_parts info5
  obtain ⟨p, cap, rfl, hcap, hnone, hmax, hy⟩ := hu
  cases p with
  | none =>
    have hn : ys = [] := by
      cases ys with
      | nil => rfl
      | cons y r => obtain ⟨b, hp, _⟩ := hy (by simp); cases hp
    subst hn
    have hc := hnone rfl
    subst hc
    refine wpList_append_own_none hgd s x 57 ho B 5 i0 1 Tryz.underlying57 hi v xs.length _ hs hown (by rw [hx]; rfl) ?_
    exact h v w (by rw [List.append_nil]; exact hown) (Fr.refl _ _)
  | some ad =>
    refine wpList_append_own w hgd s x 57 ho B 5 i0 (.int .u8 0) 1 1 Tryz.underlying57 hi hz0 hz1 hz2 rfl (by omega) v xs.length _ hs hown ad ys.length cap (ys.map bc) hx (by simp) ?_ ?_ ?_ (by omega) hB ?_
    · intro j c hj
      have hne : ys ≠ [] := by intro e; subst e; simp at hj
      obtain ⟨b, hp, hcell⟩ := hy hne
      cases hp
      rw [List.getElem?_map] at hj
      cases hyj : ys[j]? with
      | none => rw [hyj] at hj; cases hj
      | some x => rw [hyj] at hj; cases hj; exact hcell j x hyj
    · intro c hc
      obtain ⟨y, _, rfl⟩ := List.mem_map.1 hc
      rfl
    · unfold maxLen; omega
    · intro v' w' h2 h3 _
      refine h v' w' ?_ (fr_grown hown h3 hB)
      show w'.ownsRow B 5 1 v' (xs ++ ys).length ((xs ++ ys).map bc)
      rw [List.length_append, List.map_append]; exact h2
def dig (n : Int) (k : Nat) : UInt8 := UInt8.ofNat ((n / 2 ^ (8 * k)) % 256).toNat
theorem dig_nat (n : Int) (k : Nat) : ((dig n k).toNat : Int) = (n / 2 ^ (8 * k)) % 256 := by
  unfold dig
  rw [UInt8.toNat_ofNat']
  generalize n / 2 ^ (8 * k) = m
  omega
def bigB (n : Int) : Nat → List UInt8
  | 0 => []
  | k + 1 => dig n k :: bigB n k
theorem bigB_len (n : Int) (k : Nat) : (bigB n k).length = k := by
  induction k with
  | zero => rfl
  | succ k ih => simp [bigB, ih]
set_option maxRecDepth 100000 in
set_option maxHeartbeats 400000 in
theorem appNum_any {v : Value} {xs : List UInt8} {n : Int} {width B : Nat} {w : World} (hv : OwnB B w v xs) (hw : width ≤ 8) (hB : B ≤ w.heap.size) (hl : xs.length + width ≤ 140737488355328) :
    Calls Tryz.prog 119 #[v, .int .i64 n, .int .i64 width] w fun e w' => ∃ v', e = .returned v' ∧ OwnB B w' v' (xs ++ bigB n width) ∧ Fr B w w' := by
  have HL := hid hl
  have HV := hid hv
  clear hl hv
  go_enter Tryz.func119, Tryz.ntmps119
  go_wp2
  go_loopw [0, 7] (fun b i wr => ∃ (k : Nat) (ys : List UInt8), k ≤ width ∧ (∃ j : Int, i = .int .i64 j ∧ j + 1 = (k : Int)) ∧ Hid (OwnB B wr b ys) ∧ Hid (ys ++ bigB n k = xs ++ bigB n width) ∧ Hid (Fr B w wr)) (fun _ i _ => ((intOf i) + 1).toNat)
  case atStart => exact ⟨width, xs, Nat.le_refl _, ⟨_, rfl, by omega⟩, HV.out, rfl, Fr.refl _ _⟩
  case round =>
    obtain ⟨k, ys, hk, ⟨j, rfl, hj⟩, HO, HE, HB⟩ := hrel
    cases k with
    | zero =>
      obtain rfl : j = -1 := by omega
      clear hj
      go_wp2
      go_ret
      exact ⟨_, rfl, by have := HE.out; simp only [bigB, List.append_nil] at this; rw [← this]; exact HO.out, HB.out⟩
    | succ k =>
      obtain rfl : j = (k : Int) := by omega
      clear hj
      have hlen : ys.length + 1 ≤ 140737488355328 := by have h1 := congrArg List.length HE.out; simp only [List.length_append, bigB_len] at h1; have := HL.out; omega
      have HLEN := hid hlen
      clear hlen
      go_wp2_with (at_builtin; refine appF_any rfl _ _ rfl rfl (HO.out.alloc _) rfl (bat_one (x := dig n k) (dig_nat n k).symm) HLEN.out (by have := HB.out.size; rw [World.size_alloc]; omega) ?_; intro v' w2 hown hb2)
      go_roundw
      case rel => exact ⟨k, ys ++ [dig n k], by omega, ⟨_, rfl, by omega⟩, hown, by rw [List.append_assoc]; exact HE.out, HB.out.trans (((Fr.refl B wr).alloc (Nat.le_trans hB HB.out.size) _).trans hb2)⟩
      case measure => simp [intOf]
end Go.Proofs.YtlbjbkhcnafhcaaGreat.SN
namespace Go.Proofs.YtlbjbkhcnafhcaaGreat.SN
open Go.RowKit Go.Sort

def txtB (s : ByteArray) : List UInt8 := bigB (s.size : Int) 1 ++ s.data.toList
theorem txtB_len (s : ByteArray) : (txtB s).length = s.size + 1 := by
  unfold txtB
  rw [List.length_append, bigB_len]
  show 1 + s.data.toList.length = _
  rw [Array.length_toList]; exact Nat.add_comm ..
def hisB (l : List Int) : List UInt8 := l.flatMap fun n => bigB n 8
theorem hisB_len (l : List Int) : (hisB l).length = 8 * l.length := by
  induction l with
  | nil => rfl
  | cons a l ih => simp only [hisB, List.flatMap_cons, List.length_append, bigB_len, List.length_cons] at *; omega
def valB (x : Vl) : List UInt8 :=
  if x.k = 1 then bigB x.n 8 else if x.k = 2 then txtB x.s else if x.k = 3 then bigB x.n 1 else hisB [x.h0, x.h1, x.h2, x.h3, x.h4, x.h5, x.h6, x.h7]
/- append(b, s...): b of the call's own, s a text. -/
theorem appS_any {ops : Array Oper} {rest : List Oper} {o : Oper} {a : Act} {Q : Exit → Act → World → Prop} {w : World} {B : Nat} {xs : List UInt8} {v : Value} {t : ByteArray}
    (hgd : o.guard = none) (s x : Operand) (ho : o.op = .call { callee := .builtin .append, args := #[s, x], argTypes := #[57, 9] })
    (hs : a.eval s = v) (hown : OwnB B w v xs) (hx : a.eval x = .string t) (hb : xs.length + t.size ≤ 140737488355328) (hB : B ≤ w.heap.size)
    (h : ∀ v' w', OwnB B w' v' (xs ++ t.data.toList) → Fr B w w' → wpList Tryz.prog ops Q rest (a.put o.dst v') w') : wpList Tryz.prog ops Q (o :: rest) a w := by
  obtain ⟨i0, hi, hz0, hz1, hz2⟩ := info_parts info5
  refine Lib.wpList_append_own_string (P := Tryz.prog) w hgd s x 57 9 ho B 5 i0 Tryz.underlying57 Tryz.underlying9 hi hz0 hz1 hz2 v xs.length _ hs hown t hx (by unfold maxLen; omega) hb hB ?_
  intro v' w' h2 h3 _
  refine h v' w' ?_ (fr_grown hown h3 hB)
  show w'.ownsRow B 5 1 v' (xs ++ t.data.toList).length ((xs ++ t.data.toList).map bc)
  rw [List.length_append, List.map_append, Array.length_toList]
  exact h2
set_option maxRecDepth 100000 in
set_option maxHeartbeats 400000 in
theorem appText_any {v : Value} {xs : List UInt8} {s : ByteArray} {B : Nat} {w : World} (hv : OwnB B w v xs) (hB : B ≤ w.heap.size) (hl : xs.length + (s.size + 1) ≤ 140737488355328) :
    Calls Tryz.prog 120 #[v, .string s] w fun e w' => ∃ v', e = .returned v' ∧ OwnB B w' v' (xs ++ txtB s) ∧ Fr B w w' := by
  have HV := hid hv
  have HL := hid hl
  clear hv hl
  go_enter Tryz.func120, Tryz.ntmps120
  go_wp2_with (first
    | (go_at_call 119; refine (appNum_any (width := 1) HV.out (by decide) hB (by have := HL.out; omega)).mono ?_; rintro e w1 ⟨v1, rfl, hown1, hb1⟩; have HO1 := hid hown1; have HB1 := hid hb1; clear hown1 hb1)
    | (at_builtin; refine appS_any rfl _ _ rfl rfl HO1.out rfl (by have := HL.out; rw [List.length_append, bigB_len]; omega) (Nat.le_trans hB HB1.out.size) ?_; intro v2 w2 hown2 hb2))
  go_ret
  exact ⟨_, rfl, by unfold txtB; rw [← List.append_assoc]; exact hown2, HB1.out.trans hb2⟩
end Go.Proofs.YtlbjbkhcnafhcaaGreat.SN
namespace Go.Proofs.YtlbjbkhcnafhcaaGreat
open Go.RowKit Go.Sort

/- Cells one behind the other. -/
def CellsAt (w : World) (b o : Nat) (xs : List Value) : Prop := ∀ (j : Nat) u, xs[j]? = some u → w.cell? ⟨b, o + j, none⟩ = some u
theorem CellsAt.on {w w' : World} {b o : Nat} {xs : List Value} (h : CellsAt w b o xs) (hb : Below w.heap.size w w') : CellsAt w' b o xs := fun j u hj => by
  have := h j u hj
  exact (hb.cell (p := ⟨b, o + j, none⟩) (block_lt_of_cell this)).trans this
/- How many bytes an element of k cells takes, for the three kinds of slices here. -/
def bsz (k : Nat) : Nat := if k = 11 then 96 else 24
/- A slice of elements of k cells each, in a block of which Q holds. -/
def SlAt {α : Type} (Q : Nat → Prop) (enc : α → List Value) (k : Nat) (w : World) (v : Value) (xs : List α) : Prop :=
  ∃ (p : Option Addr) (cap : Nat), v = .slice p xs.length cap ∧ (xs.length ≤ cap ∧ (p = none → cap = 0)) ∧ xs.length ≤ maxLen ∧ (xs ≠ [] → ∃ b o, p = some ⟨b, o, none⟩ ∧ (Q b ∧ xs.length * bsz k ≤ 140737488355328) ∧ ∀ (j : Nat) x, xs[j]? = some x → CellsAt w b (o + j * k) (enc x))
theorem SlAt.on {α : Type} {Q : Nat → Prop} {enc : α → List Value} {k : Nat} {w w' : World} {v : Value} {xs : List α} (h : SlAt Q enc k w v xs) (hb : Below w.heap.size w w') : SlAt Q enc k w' v xs := by
  obtain ⟨p, cap, hv, hc, hm, hx⟩ := h
  exact ⟨p, cap, hv, hc, hm, fun hne => let ⟨b, o, hp, hQ, hj⟩ := hx hne; ⟨b, o, hp, hQ, fun j x hjx => (hj j x hjx).on hb⟩⟩
theorem SlAt.imp {α : Type} {Q Q' : Nat → Prop} {enc : α → List Value} {k : Nat} {w : World} {v : Value} {xs : List α} (h : SlAt Q enc k w v xs) (hq : ∀ b, Q b → Q' b) : SlAt Q' enc k w v xs := by
  obtain ⟨p, cap, hv, hc, hm, hx⟩ := h
  exact ⟨p, cap, hv, hc, hm, fun hne => let ⟨b, o, hp, hQ, hj⟩ := hx hne; ⟨b, o, hp, ⟨hq b hQ.1, hQ.2⟩, hj⟩⟩
def any (_ : Nat) : Prop := True
def RowIn (Q : Nat → Prop) (w : World) (v : Value) (r : Rw) : Prop := SlAt Q Vl.cells 11 w v r
abbrev RowAt := RowIn any
theorem RowIn.on {Q : Nat → Prop} {w w' : World} {v : Value} {r : Rw} (h : RowIn Q w v r) (hb : Below w.heap.size w w') : RowIn Q w' v r := SlAt.on h hb
theorem RowIn.imp {Q Q' : Nat → Prop} {w : World} {v : Value} {r : Rw} (h : RowIn Q w v r) (hq : ∀ b, Q b → Q' b) : RowIn Q' w v r := SlAt.imp h hq
theorem RowIn.at {Q : Nat → Prop} {w : World} {v : Value} {r : Rw} (h : RowIn Q w v r) : RowAt w v r := h.imp fun _ _ => trivial
def ColsAt (w : World) (v : Value) (cs : List Cl) : Prop := SlAt any Cl.cells 2 w v cs
theorem ColsAt.on {w w' : World} {v : Value} {cs : List Cl} (h : ColsAt w v cs) (hb : Below w.heap.size w w') : ColsAt w' v cs := SlAt.on h hb
/- One header a row. -/
def HeadsIn (Q : Nat → Prop) (w : World) (hs : List Value) (rs : List Rw) : Prop := hs.length = rs.length ∧ ∀ (j : Nat) h r, hs[j]? = some h → rs[j]? = some r → RowIn Q w h r
theorem HeadsIn.on {Q : Nat → Prop} {w w' : World} {hs : List Value} {rs : List Rw} (h : HeadsIn Q w hs rs) (hb : Below w.heap.size w w') : HeadsIn Q w' hs rs := ⟨h.1, fun j x r h1 h2 => (h.2 j x r h1 h2).on hb⟩
def one (v : Value) : List Value := [v]
def RowsAt (w : World) (v : Value) (rs : List Rw) : Prop := ∃ hs, SlAt any one 1 w v hs ∧ HeadsIn any w hs rs
theorem RowsAt.on {w w' : World} {v : Value} {rs : List Rw} (h : RowsAt w v rs) (hb : Below w.heap.size w w') : RowsAt w' v rs := let ⟨hs, h1, h2⟩ := h; ⟨hs, h1.on hb, h2.on hb⟩
def TabAt (w : World) (v : Value) (cs : List Cl) (rs : List Rw) : Prop := ∃ c r, v = .agg #[c, r] ∧ ColsAt w c cs ∧ RowsAt w r rs
theorem TabAt.on {w w' : World} {v : Value} {cs : List Cl} {rs : List Rw} (h : TabAt w v cs rs) (hb : Below w.heap.size w w') : TabAt w' v cs rs := let ⟨c, r, h0, h1, h2⟩ := h; ⟨c, r, h0, h1.on hb, h2.on hb⟩

/- The same, all of it in blocks of which Q holds. -/
def TabIn (Q : Nat → Prop) (w : World) (v : Value) (cs : List Cl) (rs : List Rw) : Prop := ∃ c r, v = .agg #[c, r] ∧ SlAt Q Cl.cells 2 w c cs ∧ ∃ hs, SlAt Q one 1 w r hs ∧ HeadsIn Q w hs rs
theorem HeadsIn.imp {Q Q' : Nat → Prop} {w : World} {hs : List Value} {rs : List Rw} (h : HeadsIn Q w hs rs) (hq : ∀ b, Q b → Q' b) : HeadsIn Q' w hs rs := ⟨h.1, fun j x r h1 h2 => (h.2 j x r h1 h2).imp hq⟩
theorem TabIn.on {Q : Nat → Prop} {w w' : World} {v : Value} {cs : List Cl} {rs : List Rw} (h : TabIn Q w v cs rs) (hb : Below w.heap.size w w') : TabIn Q w' v cs rs := let ⟨c, r, h0, h1, hs, h2, h3⟩ := h; ⟨c, r, h0, h1.on hb, hs, h2.on hb, h3.on hb⟩
theorem TabIn.imp {Q Q' : Nat → Prop} {w : World} {v : Value} {cs : List Cl} {rs : List Rw} (h : TabIn Q w v cs rs) (hq : ∀ b, Q b → Q' b) : TabIn Q' w v cs rs := let ⟨c, r, h0, h1, hs, h2, h3⟩ := h; ⟨c, r, h0, h1.imp hq, hs, h2.imp hq, h3.imp hq⟩
theorem TabIn.at {Q : Nat → Prop} {w : World} {v : Value} {cs : List Cl} {rs : List Rw} (h : TabIn Q w v cs rs) : TabAt w v cs rs := let ⟨c, r, h0, h1, hs, h2, h3⟩ := h.imp (Q' := any) (fun _ _ => trivial); ⟨c, r, h0, h1, hs, h2, h3⟩

/- What a walk wants of one element. -/
theorem cells_at {w : World} {b o : Nat} {xs : List Value} (h : CellsAt w b o xs) (i : Nat) {u : Value} (hu : xs[i]? = some u) : w.cell? ⟨b, o + i, none⟩ = some u := h i u hu
theorem col_cells {w : World} {b o : Nat} {c : Cl} (h : CellsAt w b o c.cells) : w.cell? ⟨b, o, none⟩ = some (.string c.nm) ∧ w.cell? ⟨b, o + 1, none⟩ = some (.int .i64 c.kd) := ⟨h 0 _ rfl, h 1 _ rfl⟩
structure ValCells (w : World) (b o : Nat) (v : Vl) : Prop where
  c0 : w.cell? ⟨b, o, none⟩ = some (.int .i64 v.k)
  c1 : w.cell? ⟨b, o + 1, none⟩ = some (.int .i64 v.n)
  c2 : w.cell? ⟨b, o + 2, none⟩ = some (.string v.s)
  c3 : w.cell? ⟨b, o + 3, none⟩ = some (.int .i64 v.h0)
  c4 : w.cell? ⟨b, o + 4, none⟩ = some (.int .i64 v.h1)
  c5 : w.cell? ⟨b, o + 5, none⟩ = some (.int .i64 v.h2)
  c6 : w.cell? ⟨b, o + 6, none⟩ = some (.int .i64 v.h3)
  c7 : w.cell? ⟨b, o + 7, none⟩ = some (.int .i64 v.h4)
  c8 : w.cell? ⟨b, o + 8, none⟩ = some (.int .i64 v.h5)
  c9 : w.cell? ⟨b, o + 9, none⟩ = some (.int .i64 v.h6)
  c10 : w.cell? ⟨b, o + 10, none⟩ = some (.int .i64 v.h7)
theorem val_cells {w : World} {b o : Nat} {v : Vl} (h : CellsAt w b o v.cells) : ValCells w b o v :=
  ⟨h 0 _ rfl, h 1 _ rfl, h 2 _ rfl, h 3 _ rfl, h 4 _ rfl, h 5 _ rfl, h 6 _ rfl, h 7 _ rfl, h 8 _ rfl, h 9 _ rfl, h 10 _ rfl⟩
end Go.Proofs.YtlbjbkhcnafhcaaGreat
namespace Go.Proofs.YtlbjbkhcnafhcaaGreat.SN
open Go.RowKit Go.Sort

/- Nothing older is turned but one block. -/
structure Rd (rb : Nat) (w w' : World) : Prop where
  os : w'.os = w.os
  tape : w'.tape = w.tape
  output : w'.output = w.output
  size : w.heap.size ≤ w'.heap.size
  block : ∀ k, k < w.heap.size → k ≠ rb → w'.heap[k]? = w.heap[k]?
theorem Rd.refl (rb : Nat) (w : World) : Rd rb w w := ⟨rfl, rfl, rfl, Nat.le_refl _, fun _ _ _ => rfl⟩
theorem Rd.trans {rb : Nat} {a b c : World} (h : Rd rb a b) (k : Rd rb b c) : Rd rb a c :=
  ⟨k.os.trans h.os, k.tape.trans h.tape, k.output.trans h.output, Nat.le_trans h.size k.size, fun i hi hn => (k.block i (Nat.lt_of_lt_of_le hi h.size) hn).trans (h.block i hi hn)⟩
theorem Rd.of {rb : Nat} {w w' : World} (h : Below w.heap.size w w') : Rd rb w w' := ⟨h.os, h.tape, h.output, h.size, fun k hk _ => h.block k hk⟩
theorem Rd.below {rb B : Nat} {w w' : World} (h : Rd rb w w') (hr : B ≤ rb) (hB : B ≤ w.heap.size) : Below B w w' :=
  ⟨h.os, h.tape, h.output, h.size, fun k hk => h.block k (by omega) (by omega)⟩
theorem Rd.on {rb b : Nat} {w w' : World} {o : Obj} (h : Rd rb w w') (hb : w.heap[b]? = some o) (hne : b ≠ rb) : w'.heap[b]? = some o := (h.block b (lt_of_block hb) hne).trans hb
abbrev errB : Value := .iface 26 (.int .i64 40)
abbrev errK : Value := .iface 26 (.int .i64 10)
abbrev dies (v : Value) : Ending := .panicked [{ v := v, recovered := false }]
theorem set_block {w : World} {b i : Nat} {cs : Array Value} {t : TypeId} {fz : Nat × Nat} (h : w.heap[b]? = some (.cells cs t fz)) (u : Value) : (w.setCell ⟨b, i, none⟩ u).heap[b]? = some (.cells (cs.setIfInBounds i u) t fz) := by
  simp [World.setCell, Array.getElem?_modify, h]
theorem set_rd (w : World) (b i : Nat) (u : Value) : Rd b w (w.setCell ⟨b, i, none⟩ u) :=
  ⟨rfl, rfl, rfl, by rw [World.size_setCell]; exact Nat.le_refl _, fun k _ hn => Below.heap_setCell w _ u k hn⟩
theorem block_frozen {w : World} {b : Nat} {xs : Array Value} {t : TypeId} (h : w.heap[b]? = some (.cells xs t)) (o : Nat) : w.frozen? ⟨b, o, none⟩ = false := by
  simp [World.frozen?, h]
end Go.Proofs.YtlbjbkhcnafhcaaGreat.SN
