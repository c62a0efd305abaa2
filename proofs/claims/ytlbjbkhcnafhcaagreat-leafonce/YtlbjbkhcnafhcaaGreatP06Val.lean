/-
  The reader: what its value returns, or with what it panics.
  The reader: what its value returns of a histogram's bytes; and with what it panics.
  What wire.told, the deferred closures and Go's slices.Clone of bytes return.
  A value's bytes, read: the plain function, and that the reader's value is it.
-/
import Derived.Test.YtlbjbkhcnafhcaaGreatP05NumMath
import Derived.Defers
import Derived.Recover
namespace Go.Proofs.YtlbjbkhcnafhcaaGreat.SN
open Go.RowKit Go.Sort

/- Cells that are no bytes. -/
def NoB (cs : Array Value) : Prop := ∀ (o : Nat) t, cs[o]? ≠ some (.int .u8 t)
theorem bat_apart' {w : World} {a : Addr} {b : Nat} {cs : Array Value} {ty : TypeId} {fz : Nat × Nat} {t : Int} (hr : w.heap[b]? = some (.cells cs ty fz)) (hno : NoB cs) (h : w.cell? a = some (.int .u8 t)) : a.block ≠ b := by
  intro e
  subst e
  obtain ⟨b, o, s⟩ := a
  have hs : s = none := World.cell?_spot h
  subst hs
  rw [block_cell hr] at h
  exact hno o t h
theorem BAt.keep {b : Nat} {w w' : World} {v : Value} {xs : List UInt8} {cs : Array Value} {ty : TypeId} {fz : Nat × Nat} (h : BAt w v xs) (hr : w.heap[b]? = some (.cells cs ty fz)) (hno : NoB cs) (hw : Rd b w w') : BAt w' v xs := by
  obtain ⟨p, cap, hv, hc, hn, hm, hx⟩ := h
  refine ⟨p, cap, hv, hc, hn, hm, fun hne => let ⟨a, hp, hj⟩ := hx hne; ⟨a, hp, fun j x hjx => ?_⟩⟩
  have hcell := hj j x hjx
  have hne := bat_apart' hr hno hcell
  exact (World.cell?_of_block (hw.block _ (block_lt_of_cell hcell) hne)).trans hcell
/- The same, with a new block beside it turned. -/
theorem Rd.set {rb b i : Nat} {w w' : World} (h : Rd rb w w') (hb : w.heap.size ≤ b) (u : Value) : Rd rb w (w'.setCell ⟨b, i, none⟩ u) :=
  ⟨h.os, h.tape, h.output, by rw [World.size_setCell]; exact h.size, fun k hk hn => (Below.heap_setCell w' _ u k (by simp; omega)).trans (h.block k hk hn)⟩
abbrev zc : Array Value := #[.int .i64 0, .int .i64 0, .string ⟨#[]⟩, .int .i64 0, .int .i64 0, .int .i64 0, .int .i64 0, .int .i64 0, .int .i64 0, .int .i64 0, .int .i64 0]
abbrev kc (k : Int) : Array Value := #[.int .i64 k, .int .i64 0, .string ⟨#[]⟩, .int .i64 0, .int .i64 0, .int .i64 0, .int .i64 0, .int .i64 0, .int .i64 0, .int .i64 0, .int .i64 0]
theorem noB_vals {k n a0 a1 a2 a3 a4 a5 a6 a7 : Int} {s : ByteArray} : NoB #[.int .i64 k, .int .i64 n, .string s, .int .i64 a0, .int .i64 a1, .int .i64 a2, .int .i64 a3, .int .i64 a4, .int .i64 a5, .int .i64 a6, .int .i64 a7] := by
  intro o t h
  have hlt : o < 11 := by have := (Array.getElem?_eq_some_iff.1 h).1; simpa using this
  rcases (show o = 0 ∨ o = 1 ∨ o = 2 ∨ o = 3 ∨ o = 4 ∨ o = 5 ∨ o = 6 ∨ o = 7 ∨ o = 8 ∨ o = 9 ∨ o = 10 by omega) with rfl | rfl | rfl | rfl | rfl | rfl | rfl | rfl | rfl | rfl | rfl <;> simp at h
def put11 (w : World) (b : Nat) (k n : Int) (s : ByteArray) (a0 a1 a2 a3 a4 a5 a6 a7 : Int) : World :=
  ((((((((((w.setCell ⟨b, 0, none⟩ (.int .i64 k)).setCell ⟨b, 1, none⟩ (.int .i64 n)).setCell ⟨b, 2, none⟩ (.string s)).setCell ⟨b, 3, none⟩ (.int .i64 a0)).setCell ⟨b, 4, none⟩ (.int .i64 a1)).setCell ⟨b, 5, none⟩ (.int .i64 a2)).setCell ⟨b, 6, none⟩ (.int .i64 a3)).setCell ⟨b, 7, none⟩ (.int .i64 a4)).setCell ⟨b, 8, none⟩ (.int .i64 a5)).setCell ⟨b, 9, none⟩ (.int .i64 a6)).setCell ⟨b, 10, none⟩ (.int .i64 a7)
theorem put11_rd (w : World) (b : Nat) (k n : Int) (s : ByteArray) (a0 a1 a2 a3 a4 a5 a6 a7 : Int) : Rd b w (put11 w b k n s a0 a1 a2 a3 a4 a5 a6 a7) := by
  unfold put11
  exact ((((((((((((set_rd _ _ _ _).trans (set_rd _ _ _ _)).trans (set_rd _ _ _ _)).trans (set_rd _ _ _ _)).trans (set_rd _ _ _ _)).trans (set_rd _ _ _ _)).trans (set_rd _ _ _ _)).trans (set_rd _ _ _ _)).trans (set_rd _ _ _ _)).trans (set_rd _ _ _ _)).trans (set_rd _ _ _ _)))
theorem put11_block {w : World} {b : Nat} (k n : Int) (s : ByteArray) (a0 a1 a2 a3 a4 a5 a6 a7 : Int) (h : w.heap[b]? = some (.cells zc 40)) : (put11 w b k n s a0 a1 a2 a3 a4 a5 a6 a7).heap[b]? = some (.cells #[.int .i64 k, .int .i64 n, .string s, .int .i64 a0, .int .i64 a1, .int .i64 a2, .int .i64 a3, .int .i64 a4, .int .i64 a5, .int .i64 a6, .int .i64 a7] 40) := by
  unfold put11
  have h0 : (w.setCell ⟨b, 0, none⟩ (.int .i64 k)).heap[b]? = some (.cells #[.int .i64 k, .int .i64 0, .string ⟨#[]⟩, .int .i64 0, .int .i64 0, .int .i64 0, .int .i64 0, .int .i64 0, .int .i64 0, .int .i64 0, .int .i64 0] 40) := set_block h _
  have h1 : ((w.setCell ⟨b, 0, none⟩ (.int .i64 k)).setCell ⟨b, 1, none⟩ (.int .i64 n)).heap[b]? = some (.cells #[.int .i64 k, .int .i64 n, .string ⟨#[]⟩, .int .i64 0, .int .i64 0, .int .i64 0, .int .i64 0, .int .i64 0, .int .i64 0, .int .i64 0, .int .i64 0] 40) := set_block h0 _
  have h2 : (((w.setCell ⟨b, 0, none⟩ (.int .i64 k)).setCell ⟨b, 1, none⟩ (.int .i64 n)).setCell ⟨b, 2, none⟩ (.string s)).heap[b]? = some (.cells #[.int .i64 k, .int .i64 n, .string s, .int .i64 0, .int .i64 0, .int .i64 0, .int .i64 0, .int .i64 0, .int .i64 0, .int .i64 0, .int .i64 0] 40) := set_block h1 _
  have h3 : ((((w.setCell ⟨b, 0, none⟩ (.int .i64 k)).setCell ⟨b, 1, none⟩ (.int .i64 n)).setCell ⟨b, 2, none⟩ (.string s)).setCell ⟨b, 3, none⟩ (.int .i64 a0)).heap[b]? = some (.cells #[.int .i64 k, .int .i64 n, .string s, .int .i64 a0, .int .i64 0, .int .i64 0, .int .i64 0, .int .i64 0, .int .i64 0, .int .i64 0, .int .i64 0] 40) := set_block h2 _
  have h4 : (((((w.setCell ⟨b, 0, none⟩ (.int .i64 k)).setCell ⟨b, 1, none⟩ (.int .i64 n)).setCell ⟨b, 2, none⟩ (.string s)).setCell ⟨b, 3, none⟩ (.int .i64 a0)).setCell ⟨b, 4, none⟩ (.int .i64 a1)).heap[b]? = some (.cells #[.int .i64 k, .int .i64 n, .string s, .int .i64 a0, .int .i64 a1, .int .i64 0, .int .i64 0, .int .i64 0, .int .i64 0, .int .i64 0, .int .i64 0] 40) := set_block h3 _
  have h5 : ((((((w.setCell ⟨b, 0, none⟩ (.int .i64 k)).setCell ⟨b, 1, none⟩ (.int .i64 n)).setCell ⟨b, 2, none⟩ (.string s)).setCell ⟨b, 3, none⟩ (.int .i64 a0)).setCell ⟨b, 4, none⟩ (.int .i64 a1)).setCell ⟨b, 5, none⟩ (.int .i64 a2)).heap[b]? = some (.cells #[.int .i64 k, .int .i64 n, .string s, .int .i64 a0, .int .i64 a1, .int .i64 a2, .int .i64 0, .int .i64 0, .int .i64 0, .int .i64 0, .int .i64 0] 40) := set_block h4 _
  have h6 : (((((((w.setCell ⟨b, 0, none⟩ (.int .i64 k)).setCell ⟨b, 1, none⟩ (.int .i64 n)).setCell ⟨b, 2, none⟩ (.string s)).setCell ⟨b, 3, none⟩ (.int .i64 a0)).setCell ⟨b, 4, none⟩ (.int .i64 a1)).setCell ⟨b, 5, none⟩ (.int .i64 a2)).setCell ⟨b, 6, none⟩ (.int .i64 a3)).heap[b]? = some (.cells #[.int .i64 k, .int .i64 n, .string s, .int .i64 a0, .int .i64 a1, .int .i64 a2, .int .i64 a3, .int .i64 0, .int .i64 0, .int .i64 0, .int .i64 0] 40) := set_block h5 _
  have h7 : ((((((((w.setCell ⟨b, 0, none⟩ (.int .i64 k)).setCell ⟨b, 1, none⟩ (.int .i64 n)).setCell ⟨b, 2, none⟩ (.string s)).setCell ⟨b, 3, none⟩ (.int .i64 a0)).setCell ⟨b, 4, none⟩ (.int .i64 a1)).setCell ⟨b, 5, none⟩ (.int .i64 a2)).setCell ⟨b, 6, none⟩ (.int .i64 a3)).setCell ⟨b, 7, none⟩ (.int .i64 a4)).heap[b]? = some (.cells #[.int .i64 k, .int .i64 n, .string s, .int .i64 a0, .int .i64 a1, .int .i64 a2, .int .i64 a3, .int .i64 a4, .int .i64 0, .int .i64 0, .int .i64 0] 40) := set_block h6 _
  have h8 : (((((((((w.setCell ⟨b, 0, none⟩ (.int .i64 k)).setCell ⟨b, 1, none⟩ (.int .i64 n)).setCell ⟨b, 2, none⟩ (.string s)).setCell ⟨b, 3, none⟩ (.int .i64 a0)).setCell ⟨b, 4, none⟩ (.int .i64 a1)).setCell ⟨b, 5, none⟩ (.int .i64 a2)).setCell ⟨b, 6, none⟩ (.int .i64 a3)).setCell ⟨b, 7, none⟩ (.int .i64 a4)).setCell ⟨b, 8, none⟩ (.int .i64 a5)).heap[b]? = some (.cells #[.int .i64 k, .int .i64 n, .string s, .int .i64 a0, .int .i64 a1, .int .i64 a2, .int .i64 a3, .int .i64 a4, .int .i64 a5, .int .i64 0, .int .i64 0] 40) := set_block h7 _
  have h9 : ((((((((((w.setCell ⟨b, 0, none⟩ (.int .i64 k)).setCell ⟨b, 1, none⟩ (.int .i64 n)).setCell ⟨b, 2, none⟩ (.string s)).setCell ⟨b, 3, none⟩ (.int .i64 a0)).setCell ⟨b, 4, none⟩ (.int .i64 a1)).setCell ⟨b, 5, none⟩ (.int .i64 a2)).setCell ⟨b, 6, none⟩ (.int .i64 a3)).setCell ⟨b, 7, none⟩ (.int .i64 a4)).setCell ⟨b, 8, none⟩ (.int .i64 a5)).setCell ⟨b, 9, none⟩ (.int .i64 a6)).heap[b]? = some (.cells #[.int .i64 k, .int .i64 n, .string s, .int .i64 a0, .int .i64 a1, .int .i64 a2, .int .i64 a3, .int .i64 a4, .int .i64 a5, .int .i64 a6, .int .i64 0] 40) := set_block h8 _
  have h10 : (((((((((((w.setCell ⟨b, 0, none⟩ (.int .i64 k)).setCell ⟨b, 1, none⟩ (.int .i64 n)).setCell ⟨b, 2, none⟩ (.string s)).setCell ⟨b, 3, none⟩ (.int .i64 a0)).setCell ⟨b, 4, none⟩ (.int .i64 a1)).setCell ⟨b, 5, none⟩ (.int .i64 a2)).setCell ⟨b, 6, none⟩ (.int .i64 a3)).setCell ⟨b, 7, none⟩ (.int .i64 a4)).setCell ⟨b, 8, none⟩ (.int .i64 a5)).setCell ⟨b, 9, none⟩ (.int .i64 a6)).setCell ⟨b, 10, none⟩ (.int .i64 a7)).heap[b]? = some (.cells #[.int .i64 k, .int .i64 n, .string s, .int .i64 a0, .int .i64 a1, .int .i64 a2, .int .i64 a3, .int .i64 a4, .int .i64 a5, .int .i64 a6, .int .i64 a7] 40) := set_block h9 _
  exact h10
theorem Rd.beside {rb b : Nat} {w w1 w2 : World} (h : Rd rb w w1) (h2 : Rd b w1 w2) (hb : w.heap.size ≤ b) : Rd rb w w2 :=
  ⟨h2.os.trans h.os, h2.tape.trans h.tape, h2.output.trans h.output, Nat.le_trans h.size h2.size, fun k hk hn => (h2.block k (Nat.lt_of_lt_of_le hk h.size) (by omega)).trans (h.block k hk hn)⟩
end Go.Proofs.YtlbjbkhcnafhcaaGreat.SN
namespace Go.Proofs.YtlbjbkhcnafhcaaGreat.SN
open Go.RowKit Go.Sort

def gat (f : Nat → Int) (k i : Nat) : Int := if i < k then f i else 0
def hcells (f : Nat → Int) (k : Nat) : Array Value := #[.int .i64 4, .int .i64 0, .string ⟨#[]⟩, .int .i64 (gat f k 0), .int .i64 (gat f k 1), .int .i64 (gat f k 2), .int .i64 (gat f k 3), .int .i64 (gat f k 4), .int .i64 (gat f k 5), .int .i64 (gat f k 6), .int .i64 (gat f k 7)]
theorem hcells_zero (f : Nat → Int) : hcells f 0 = kc 4 := rfl
theorem hcells_set (f : Nat → Int) {k : Nat} (h : k < 8) : (hcells f k).setIfInBounds (3 + k) (.int .i64 (f k)) = hcells f (k + 1) := by
  rcases lt8 h with rfl | rfl | rfl | rfl | rfl | rfl | rfl | rfl <;> rfl
theorem hcells_at (f : Nat → Int) {k : Nat} (h : k < 8) : (hcells f k)[3 + k]? = some (.int .i64 0) := by
  rcases lt8 h with rfl | rfl | rfl | rfl | rfl | rfl | rfl | rfl <;> rfl
theorem noB_hcells (f : Nat → Int) (k : Nat) : NoB (hcells f k) := noB_vals
def bkt (xs : List UInt8) (i : Nat) : Int := numB ((xs.drop (8 * i)).take 8)
theorem drop_next (xs : List UInt8) (k : Nat) : (xs.drop (8 * k)).drop 8 = xs.drop (8 * (k + 1)) := by rw [List.drop_drop]; rfl
end Go.Proofs.YtlbjbkhcnafhcaaGreat.SN
namespace Go.Proofs.YtlbjbkhcnafhcaaGreat.SN
open Go.RowKit Go.Sort

set_option maxHeartbeats 400000 in
theorem cloneB_any {v : Value} {xs : List UInt8} {w : World} (hv : BAt w v xs) (hl : xs.length ≤ 140737488355328) :
    Calls Tryz.prog 105 #[v] w fun e w' => ∃ v', e = .returned v' ∧ OwnB w.heap.size w' v' xs ∧ Below w.heap.size w w' := by
  have HV := hid hv
  have HL := hid hl
  clear hl
  obtain ⟨p, cap, rfl, hcap, hnone, hmax, hx⟩ := hv
  have q41 : ∀ (w : World) (a : Option Addr) (n c n' c' : Nat), (binOp .eql 57 (.slice a n c) (.slice none n' c')).run Tryz.prog w = .ok (.bool a.isNone) w := fun w a n c n' c' => Lib.run_eql_slice_nil w _ _ a n c n' c' Tryz.underlying57
  cases p with
  | none =>
    have hn : xs = [] := by
      cases xs with
      | nil => rfl
      | cons y r => obtain ⟨b, hp, _⟩ := hx (by simp); cases hp
    subst hn
    clear hx hcap hmax hnone
    go_enter Tryz.func105, Tryz.ntmps105
    go_wp2
    go_ret
    exact ⟨_, rfl, OwnB.nil _ _, Below.refl _ _⟩
  | some ad =>
    clear hx hcap hmax hnone
    generalize xs.length = n at *
    go_enter Tryz.func105, Tryz.ntmps105
    go_wp2_with (at_builtin; refine appB_any rfl _ _ rfl rfl (OwnB.made w.heap.size w (Nat.le_refl _)) rfl (BAt.on HV.out ((Below.refl _ _).alloc (Nat.le_refl _) _)) (by obtain ⟨_, _, e, _⟩ := HV.out; injection e with _ e; simp; rw [← e]; exact HL.out) (by simp) ?_; intro v' w1 hown hb1)
    go_ret
    exact ⟨_, rfl, by rw [List.nil_append] at hown; exact hown, ((Below.refl _ _).alloc (Nat.le_refl _) _).trans hb1⟩
end Go.Proofs.YtlbjbkhcnafhcaaGreat.SN
namespace Go.Proofs.YtlbjbkhcnafhcaaGreat.SN
open Go.RowKit Go.Sort

theorem small0 : (ByteArray.mk #[]).size ≤ maxLen := by decide
theorem smallTake (xs : List UInt8) (c : UInt8) : (ByteArray.mk (xs.take c.toNat).toArray).size ≤ maxLen := by
  show (xs.take c.toNat).toArray.size ≤ maxLen
  have := c.toNat_lt
  simp [maxLen]; omega
abbrev vInt (xs : List UInt8) : Vl := ⟨1, numB (xs.take 8), ⟨#[]⟩, 0, 0, 0, 0, 0, 0, 0, 0, small0⟩
abbrev vStr (xs : List UInt8) (c : UInt8) : Vl := ⟨2, 0, ⟨(xs.take c.toNat).toArray⟩, 0, 0, 0, 0, 0, 0, 0, 0, smallTake xs c⟩
abbrev vBool (c : UInt8) : Vl := ⟨3, (c.toNat : Int), ⟨#[]⟩, 0, 0, 0, 0, 0, 0, 0, 0, small0⟩
abbrev vHist (xs : List UInt8) : Vl := ⟨4, 0, ⟨#[]⟩, bkt xs 0, bkt xs 1, bkt xs 2, bkt xs 3, bkt xs 4, bkt xs 5, bkt xs 6, bkt xs 7, small0⟩
def takeV (k : Int) (xs : List UInt8) : Option (Vl × List UInt8) :=
  if k = 1 then (if 8 ≤ xs.length then some (vInt xs, xs.drop 8) else none)
  else if k = 2 then (match xs with | [] => none | c :: r => if c.toNat ≤ r.length ∧ c.toNat ≤ 64 then some (vStr r c, r.drop c.toNat) else none)
  else if k = 3 then (match xs with | [] => none | c :: r => if c.toNat ≤ 1 then some (vBool c, r) else none)
  else if k = 4 then (if 64 ≤ xs.length then some (vHist xs, xs.drop 64) else none)
  else none
end Go.Proofs.YtlbjbkhcnafhcaaGreat.SN
