/-
  What crc.More, crc.Sum, crc.Slot and the reference's return, for all bytes.
  What crc.Sum, crc.Slot, the reference's and the statements' own shown return.
  Bytes that a call makes for itself by append, and what string(b) gives.
  Tables as plain data: values, their order, rows, their order, and canonical order: one list for all orders in which the rows stood.
-/
import Derived.Test.YtlbjbkhcnafhcaaGreatP02Cmp
import Derived.Laws.AppendOwnNone
import Derived.Laws.OwnMore
import Derived.OwnWalk
import Derived.Lib.SmallJoins
namespace Go.Proofs.YtlbjbkhcnafhcaaGreat.SN
open Go.RowKit

/- A slice of these bytes. -/
def BAt (w : World) (v : Value) (xs : List UInt8) : Prop :=
  ∃ (p : Option Addr) (cap : Nat), v = .slice p xs.length cap ∧ xs.length ≤ cap ∧ (p = none → cap = 0) ∧ cap ≤ maxLen ∧ (xs ≠ [] → ∃ a, p = some a ∧ ∀ (j : Nat) x, xs[j]? = some x → w.cell? (a.add j) = some (.int .u8 (x.toNat : Int)))
theorem cell_onB {w w' : World} {a : Addr} {v : Value} (h : w.cell? a = some v) (hb : Below w.heap.size w w') : w'.cell? a = some v :=
  (hb.cell (block_lt_of_cell h)).trans h
theorem BAt.on {w w' : World} {v : Value} {xs : List UInt8} (h : BAt w v xs) (hb : Below w.heap.size w w') : BAt w' v xs := by
  obtain ⟨p, cap, hv, hc, hn, hm, hx⟩ := h
  exact ⟨p, cap, hv, hc, hn, hm, fun hne => let ⟨a, hp, hj⟩ := hx hne; ⟨a, hp, fun j x hjx => cell_onB (hj j x hjx) hb⟩⟩
theorem xor_byte (y : W32) (c : UInt8) : bits .xor .u32 (u y) ((c.toNat : Int) % 4294967296) = u (y ^^^ BitVec.ofNat 32 c.toNat) := by
  have := c.toNat_lt
  rw [show (c.toNat : Int) % 4294967296 = (c.toNat : Int) by omega, u_byte, bits_xor]
theorem and_one (x : W32) : x &&& 1 = if x.toNat % 2 = 1 then 1 else 0 := by
  apply BitVec.eq_of_toNat_eq
  rw [BitVec.toNat_and]
  show x.toNat &&& 1 = _
  rw [Nat.and_one_is_mod]
  split <;> rename_i h
  · rw [h]; rfl
  · rw [show x.toNat % 2 = 0 by omega]; rfl
theorem step_odd {y : W32} (h : u y % 2 = 1) : bits .xor .u32 (u y / 2) 2197175160 = u (stepB y) := by
  rw [u_poly, u_half, bits_xor]
  congr 1
  unfold stepB
  rw [and_one, if_pos (by unfold u at h; omega), show -(1 : W32) = BitVec.allOnes 32 from rfl, BitVec.and_allOnes]
theorem step_even {y : W32} (h : u y % 2 = 0) : u y / 2 = u (stepB y) := by
  rw [u_half]
  congr 1
  unfold stepB
  rw [and_one, if_neg (by unfold u at h; omega), show -(0 : W32) = 0 from rfl]
  simp
theorem u_tmod (y : W32) : (u y).tmod 2 = u y % 2 := by
  have := u_range y
  exact Int.tmod_eq_emod_of_nonneg this.1
theorem test_even {y : W32} (h : u y % 2 = 0) : ((u y).tmod 2 == 1) = false := by rw [u_tmod, h]; rfl
theorem test_odd {y : W32} (h : u y % 2 = 1) : ((u y).tmod 2 == 1) = true := by rw [u_tmod, h]; rfl
end Go.Proofs.YtlbjbkhcnafhcaaGreat.SN
namespace Go.Proofs.YtlbjbkhcnafhcaaGreat.SN
open Go.RowKit

def sum (xs : List UInt8) : W32 := more 0 xs
theorem sum_nil : u (sum []) = 0 := by kernel_rfl


theorem bat_nil (w : World) : BAt w (.slice none 0 0) [] := ⟨none, 0, rfl, by simp, fun _ => rfl, by simp [maxLen], fun h => absurd rfl h⟩


theorem callsTo {f : Nat} {args : Array Value} {w : World} {k : IntKind} {a b : Int} (h : Calls Tryz.prog f args w fun e w' => e = .returned (.int k a) ∧ w' = w) (e : a = b) : Calls Tryz.prog f args w fun e w' => e = .returned (.int k b) ∧ w' = w := by rw [← e]; exact h
end Go.Proofs.YtlbjbkhcnafhcaaGreat.SN
namespace Go.Proofs.YtlbjbkhcnafhcaaGreat.SN
open Go.RowKit Go.Sort

theorem BAt.take {w : World} {p : Option Addr} {n k cap : Nat} {xs : List UInt8} (hn : xs.length = n) (hk : k ≤ n) (h : BAt w (.slice p n cap) xs) : BAt w (.slice p k cap) (xs.take k) := by
  obtain ⟨p', cap', hv, hc, hno, hm, hx⟩ := h
  cases hv
  have hl : (xs.take k).length = k := by simp; omega
  refine ⟨p, cap, by rw [hl], by omega, hno, hm, fun hne => ?_⟩
  obtain ⟨a, ha, hj⟩ := hx (by intro e; subst e; simp at hne)
  refine ⟨a, ha, fun j x hjx => hj j x ?_⟩
  have hlt : j < k := by have := (List.getElem?_eq_some_iff.1 hjx).1; omega
  rwa [List.getElem?_take_of_lt hlt] at hjx
theorem add_add (a : Addr) (k j : Nat) : (a.add k).add j = a.add (k + j) := by
  unfold Addr.add
  by_cases hk : k = 0
  · subst hk; simp
  · by_cases hj : j = 0
    · subst hj; simp [hk]
    · simp [hk, hj, Nat.add_assoc]
theorem BAt.drop {w : World} {p : Option Addr} {n k cap : Nat} {xs : List UInt8} (hn : xs.length = n) (hk : k ≤ n) (h : BAt w (.slice p n cap) xs) : BAt w (.slice (if cap = k then p else Option.map (fun x => x.add k) p) (n - k) (cap - k)) (xs.drop k) := by
  obtain ⟨p', cap', hv, hc, hno, hm, hx⟩ := h
  cases hv
  have hl : (xs.drop k).length = xs.length - k := by simp
  refine ⟨_, _, by rw [hl], by omega, ?_, by omega, fun hne => ?_⟩
  · intro e
    split at e
    · omega
    · cases p with
      | none => have := hno rfl; omega
      | some a => cases e
  · have hlt : k < xs.length := by
      rcases Nat.lt_or_ge k xs.length with h | h
      · exact h
      · exact absurd (List.drop_eq_nil_of_le h) hne
    obtain ⟨a, rfl, hj⟩ := hx (by intro e; subst e; simp at hlt)
    rw [if_neg (by omega)]
    refine ⟨a.add k, rfl, fun j x hjx => ?_⟩
    rw [add_add]
    exact hj _ x (by rw [List.getElem?_drop] at hjx; exact hjx)
def bc (x : UInt8) : Value := .int .u8 (x.toNat : Int)
theorem info5 : (Tryz.prog.info? 5).map (fun i => (i.zero, i.size, i.bytes)) = some (some (.int .u8 0), 1, 1) := by kernel_rfl
def OwnB (B : Nat) (w : World) (v : Value) (xs : List UInt8) : Prop := w.ownsRow B 5 1 v xs.length (xs.map bc)
theorem OwnB.made (B : Nat) (w : World) (hb : B ≤ w.heap.size) : OwnB B (w.alloc (.cells #[] 5)) (.slice (some ⟨w.heap.size, 0, none⟩) 0 0) [] :=
  World.ownsRow_made w #[] 0 hb (Nat.zero_le _) (by simp)
theorem OwnB.lt {B : Nat} {w : World} {v : Value} {xs : List UInt8} (h : OwnB B w v xs) : ∀ g, v.ownBlock = some g → B ≤ g := fun g hg => (World.ownsRow.lt h g hg).1
theorem OwnB.bat {B : Nat} {w : World} {v : Value} {xs : List UInt8} (h : OwnB B w v xs) : BAt w v xs := by
  rcases h.2 with ⟨hv, h0⟩ | ⟨g, cap, cur, hv, hg, hblk, hc, hm, _⟩
  · exact ⟨none, 0, by rw [hv, h0], by omega, fun _ => rfl, Nat.zero_le _, fun hne => absurd (List.eq_nil_of_length_eq_zero h0) hne⟩
  · exact ⟨some ⟨g, 0, none⟩, cap, hv, hc, (fun e => by cases e), hm, fun _ => ⟨_, rfl, fun j x hj => World.ownsRow.cells h (by rw [hv]; rfl) j _ (by rw [List.getElem?_map, hj]; rfl)⟩⟩
/- append(s, x...): s of the call's own, x any slice. -/
theorem appB_any {ops : Array Oper} {rest : List Oper} {o : Oper} {a : Act} {Q : Exit → Act → World → Prop} {w : World} {B : Nat} {xs ys : List UInt8} {v y : Value}
    (hgd : o.guard = none) (s x : Operand) (ho : o.op = .call { callee := .builtin .append, args := #[s, x], argTypes := #[57, 57] })
    (hs : a.eval s = v) (hown : OwnB B w v xs) (hx : a.eval x = y) (hu : BAt w y ys) (hb : xs.length + ys.length ≤ 140737488355328) (hB : B ≤ w.heap.size)
    (h : ∀ v' w', OwnB B w' v' (xs ++ ys) → Below B w w' → wpList Tryz.prog ops Q rest (a.put o.dst v') w') : wpList Tryz.prog ops Q (o :: rest) a w := by
  obtain ⟨i0, hi, hz0, hz1, hz2⟩ := info_parts info5
  obtain ⟨p, cap, rfl, hcap, hnone, hmax, hy⟩ := hu
  cases p with
  | none =>
    have hn : ys = [] := by
      cases ys with
      | nil => rfl
      | cons y r => obtain ⟨b, hp, _⟩ := hy (by simp); cases hp
    subst hn
    have hc := hnone rfl
    subst hc
    refine wpList_append_own_none hgd s x 57 ho B 5 i0 1 Tryz.underlying57 hi v xs.length _ hs hown (by rw [hx]; rfl) ?_
    exact h v w (by rw [List.append_nil]; exact hown) (Below.refl _ _)
  | some ad =>
    refine wpList_append_own w hgd s x 57 ho B 5 i0 (.int .u8 0) 1 1 Tryz.underlying57 hi hz0 hz1 hz2 rfl (by omega) v xs.length _ hs hown ad ys.length cap (ys.map bc) hx (by simp) ?_ ?_ ?_ (by omega) hB ?_
    · intro j c hj
      have hne : ys ≠ [] := by intro e; subst e; simp at hj
      obtain ⟨b, hp, hcell⟩ := hy hne
      cases hp
      rw [List.getElem?_map] at hj
      cases hyj : ys[j]? with
      | none => rw [hyj] at hj; cases hj
      | some x => rw [hyj] at hj; cases hj; exact hcell j x hyj
    · intro c hc
      obtain ⟨y, _, rfl⟩ := List.mem_map.1 hc
      rfl
    · unfold maxLen; omega
    · intro v' w' h2 h3 _
      refine h v' w' ?_ ((Below.refl B w).grown h3 hB (fun j e => (hown.lt j e)))
      show w'.ownsRow B 5 1 v' (xs ++ ys).length ((xs ++ ys).map bc)
      rw [List.length_append, List.map_append]; exact h2
theorem conv_bat {w : World} {p : Option Addr} {n cap : Nat} {xs : List UInt8} (h : BAt w (.slice p n cap) xs) : (convert 57 9 (.slice p n cap)).run Tryz.prog w = .ok (.string ⟨xs.toArray⟩) w := by
  obtain ⟨p', cap', hv, hcap, hnone, hmax, hx⟩ := h
  cases hv
  cases p with
  | none =>
    have hn : xs = [] := by
      cases xs with
      | nil => rfl
      | cons y r => obtain ⟨b, hp, _⟩ := hx (by simp); cases hp
    subst hn
    show (convert 57 9 (.slice none 0 cap)).run Tryz.prog w = _
    rw [run_convert_bytes_string w 57 9 5 none 0 cap Tryz.underlying57 Tryz.underlying5 Tryz.underlying9]
    simp [Conv.bytesToString]
    rfl
  | some a =>
    refine run_convert_bytes_back w 57 9 5 a cap xs Tryz.underlying57 Tryz.underlying5 Tryz.underlying9 fun j hj => ?_
    obtain ⟨b, hp, hc⟩ := hx (by intro e; subst e; simp at hj)
    cases hp
    exact hc j _ (List.getElem?_eq_getElem hj)
end Go.Proofs.YtlbjbkhcnafhcaaGreat.SN
namespace Go.Proofs.YtlbjbkhcnafhcaaGreat
open Go.RowKit

structure Vl where
  k : Int
  n : Int
  s : ByteArray
  h0 : Int
  h1 : Int
  h2 : Int
  h3 : Int
  h4 : Int
  h5 : Int
  h6 : Int
  h7 : Int
  small : s.size ≤ maxLen
abbrev Vl.val (v : Vl) : Value := V v.k v.n v.s v.h0 v.h1 v.h2 v.h3 v.h4 v.h5 v.h6 v.h7
def Vl.cells (v : Vl) : List Value := [.int .i64 v.k, .int .i64 v.n, .string v.s, .int .i64 v.h0, .int .i64 v.h1, .int .i64 v.h2, .int .i64 v.h3, .int .i64 v.h4, .int .i64 v.h5, .int .i64 v.h6, .int .i64 v.h7]
def cmpL (x y : Vl) : Int := cmpV x.k x.n x.s x.h0 x.h1 x.h2 x.h3 x.h4 x.h5 x.h6 x.h7 y.k y.n y.s y.h0 y.h1 y.h2 y.h3 y.h4 y.h5 y.h6 y.h7
def validL (x : Vl) : Bool := validB x.k x.n x.s x.h0 x.h1 x.h2 x.h3 x.h4 x.h5 x.h6 x.h7
def eqL (x y : Vl) : Bool := eqV x.k x.n x.s x.h0 x.h1 x.h2 x.h3 x.h4 x.h5 x.h6 x.h7 y.k y.n y.s y.h0 y.h1 y.h2 y.h3 y.h4 y.h5 y.h6 y.h7

theorem eqL_iff (x y : Vl) : eqL x y = true ↔ x = y := by
  cases x; cases y
  simp only [eqL, eqV, eqH, Bool.and_eq_true, decide_eq_true_eq, Vl.mk.injEq]
  constructor
  · rintro ⟨⟨h1, h2, h3⟩, h⟩; exact ⟨h1, h2, h3, h⟩
  · rintro ⟨h1, h2, h3, h⟩; exact ⟨⟨h1, h2, h3⟩, h⟩
theorem tri_cmpL (x y z : Vl) : tri (cmpL x y) (cmpL y z) (cmpL x z) := tri_cmpV ..
theorem neg_cmpL (x y : Vl) : cmpL y x = -cmpL x y := neg_cmpV ..
theorem cmpL_zero (x y : Vl) : cmpL x y = 0 ↔ x = y := by
  rw [← eqL_iff]
  unfold eqL cmpL
  rw [eqV_cmpV]; simp
theorem eqL_cmpL (x y : Vl) : eqL x y = (cmpL x y == 0) := by unfold eqL cmpL; rw [eqV_cmpV]
instance : DecidableEq Vl := fun x y => decidable_of_iff _ (eqL_iff x y)

abbrev Rw := List Vl
def cmpR : Rw → Rw → Int
  | [], [] => 0
  | [], _ :: _ => -1
  | _ :: _, [] => 1
  | a :: x, b :: y => thn (cmpL a b) (cmpR x y)
theorem three_of_tri {x y z : Int} (h : tri x y z) : x = -1 ∨ x = 0 ∨ x = 1 := h.1
theorem cmpR_three (x y : Rw) : cmpR x y = -1 ∨ cmpR x y = 0 ∨ cmpR x y = 1 := by
  induction x generalizing y with
  | nil => cases y <;> simp [cmpR]
  | cons a x ih =>
    cases y with
    | nil => simp [cmpR]
    | cons b y =>
      have h1 := three_of_tri (tri_cmpL a b b)
      have h2 := ih y
      simp only [cmpR, thn]; split <;> omega
theorem tri_cmpR (x y z : Rw) : tri (cmpR x y) (cmpR y z) (cmpR x z) := by
  induction x generalizing y z with
  | nil =>
    cases y with
    | nil => cases z <;> simp [tri, cmpR]
    | cons b y =>
      cases z with
      | nil => simp [tri, cmpR]
      | cons c z => exact tri_left (cmpR_three _ _)
  | cons a x ih =>
    cases y with
    | nil =>
      cases z with
      | nil => simp [tri, cmpR]
      | cons c z => exact tri_mid (cmpR_three _ _)
    | cons b y =>
      cases z with
      | nil => exact tri_right (cmpR_three _ _)
      | cons c z => exact tri_thn (tri_cmpL _ _ _) (ih _ _)
theorem neg_cmpR (x y : Rw) : cmpR y x = -cmpR x y := by
  induction x generalizing y with
  | nil => cases y <;> simp [cmpR]
  | cons a x ih =>
    cases y with
    | nil => simp [cmpR]
    | cons b y => exact neg_thn (neg_cmpL _ _) (ih _)
theorem cmpR_zero (x y : Rw) : cmpR x y = 0 ↔ x = y := by
  induction x generalizing y with
  | nil => cases y <;> simp [cmpR]
  | cons a x ih =>
    cases y with
    | nil => simp [cmpR]
    | cons b y => simp only [cmpR, thn_zero_iff, cmpL_zero, ih, List.cons.injEq]

/- Canonical order. -/
def sortR (l : List Rw) : List Rw := l.mergeSort fun x y => decide (cmpR x y ≤ 0)
def upR (l : List Rw) : Prop := l.Pairwise fun x y => cmpR x y ≤ 0
theorem cmpR_trans {x y z : Rw} (h1 : cmpR x y ≤ 0) (h2 : cmpR y z ≤ 0) : cmpR x z ≤ 0 := by
  obtain ⟨a, b, c, d, e, f, g⟩ := tri_cmpR x y z
  omega
theorem sortR_perm (l : List Rw) : (sortR l).Perm l := List.mergeSort_perm _ _
theorem sortR_up (l : List Rw) : upR (sortR l) := by
  have := List.pairwise_mergeSort (le := fun x y => decide (cmpR x y ≤ 0)) (fun a b c h1 h2 => by simp at *; exact cmpR_trans h1 h2) (fun a b => by have := neg_cmpR a b; simp; omega) l
  exact this.imp fun h => by simpa using h
theorem up_unique {l m : List Rw} (hl : upR l) (hm : upR m) (hp : l.Perm m) : l = m :=
  List.Perm.eq_of_pairwise (le := fun x y => cmpR x y ≤ 0) (fun a b _ _ h1 h2 => (cmpR_zero a b).1 (by have := neg_cmpR a b; omega)) hl hm hp
theorem sortR_of {l m : List Rw} (hl : upR l) (hp : l.Perm m) : l = sortR m := up_unique hl (sortR_up m) (hp.trans (sortR_perm m).symm)
theorem sortR_perm_eq {l m : List Rw} (hp : l.Perm m) : sortR l = sortR m := sortR_of (sortR_up l) ((sortR_perm l).trans hp)
theorem sortR_length (l : List Rw) : (sortR l).length = l.length := (sortR_perm l).length_eq
theorem sortR_sortR (l : List Rw) : sortR (sortR l) = sortR l := sortR_perm_eq (sortR_perm l)

/- Columns. -/
structure Cl where
  nm : ByteArray
  kd : Int
  small : nm.size ≤ maxLen
def Cl.cells (c : Cl) : List Value := [.string c.nm, .int .i64 c.kd]
def eqC (x y : Cl) : Bool := decide (x.nm = y.nm ∧ x.kd = y.kd)
theorem eqC_iff (x y : Cl) : eqC x y = true ↔ x = y := by
  cases x; cases y; simp [eqC]
instance : DecidableEq Cl := fun x y => decidable_of_iff _ (eqC_iff x y)
end Go.Proofs.YtlbjbkhcnafhcaaGreat
