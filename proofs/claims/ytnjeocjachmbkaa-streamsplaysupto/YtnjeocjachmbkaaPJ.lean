/-
  The reader: what its value returns, or with what it panics.
  The reader: what its value returns of a histogram's bytes; and with what it panics.
  What wire.told, the deferred closures and Go's slices.Clone of bytes return.
  A value's bytes, read: the plain function, and that the reader's value is it.
  What wire.Take returns.
-/
import Derived.Test.YtnjeocjachmbkaaPI
import Derived.Defers
import Derived.Recover
import Derived.Deep.CutRange
namespace Go.Proofs.Ytnjeocjachmbkaa
open Go.RowKit Go.Sort

/- Cells that are no bytes. -/
def NoB (cs : Array Value) : Prop := ∀ (o : Nat) t, cs[o]? ≠ some (.int .u8 t)
theorem bat_apart' {w : World} {a : Addr} {b : Nat} {cs : Array Value} {ty : TypeId} {fz : Nat × Nat} {t : Int} (hr : w.heap[b]? = some (.cells cs ty fz)) (hno : NoB cs) (h : w.cell? a = some (.int .u8 t)) : a.block ≠ b := by
  intro e
  subst e
  obtain ⟨b, o, s⟩ := a
  have hs : s = none := World.cell?_spot h
  subst hs
  rw [block_cell hr] at h
  exact hno o t h
theorem BAt.keep {b : Nat} {w w' : World} {v : Value} {xs : List UInt8} {cs : Array Value} {ty : TypeId} {fz : Nat × Nat} (h : BAt w v xs) (hr : w.heap[b]? = some (.cells cs ty fz)) (hno : NoB cs) (hw : Rd b w w') : BAt w' v xs := by
  obtain ⟨p, cap, hv, hc, hn, hm, hx⟩ := h
  refine ⟨p, cap, hv, hc, hn, hm, fun hne => let ⟨a, hp, hj⟩ := hx hne; ⟨a, hp, fun j x hjx => ?_⟩⟩
  have hcell := hj j x hjx
  have hne := bat_apart' hr hno hcell
  exact (World.cell?_of_block (hw.block _ (block_lt_of_cell hcell) hne)).trans hcell
theorem RdAt.keep {b rb : Nat} {w w' : World} {xs : List UInt8} {cs : Array Value} {ty : TypeId} {fz : Nat × Nat} (h : RdAt rb w xs) (hr : w.heap[b]? = some (.cells cs ty fz)) (hno : NoB cs) (hne : rb ≠ b) (hw : Rd b w w') : RdAt rb w' xs :=
  let ⟨v, h1, h2⟩ := h; ⟨v, hw.on h1 hne, h2.keep hr hno hw⟩
/- The same, with a new block beside it turned. -/
theorem Rd.set {rb b i : Nat} {w w' : World} (h : Rd rb w w') (hb : w.heap.size ≤ b) (u : Value) : Rd rb w (w'.setCell ⟨b, i, none⟩ u) :=
  ⟨h.os, h.tape, h.output, by rw [World.size_setCell]; exact h.size, fun k hk hn => (Below.heap_setCell w' _ u k (by simp; omega)).trans (h.block k hk hn)⟩
abbrev zc : Array Value := #[.int .i64 0, .int .i64 0, .string ⟨#[]⟩, .int .i64 0, .int .i64 0, .int .i64 0, .int .i64 0, .int .i64 0, .int .i64 0, .int .i64 0, .int .i64 0]
abbrev kc (k : Int) : Array Value := #[.int .i64 k, .int .i64 0, .string ⟨#[]⟩, .int .i64 0, .int .i64 0, .int .i64 0, .int .i64 0, .int .i64 0, .int .i64 0, .int .i64 0, .int .i64 0]
/- The reader's value under way: the result's block B, the value's own B + 1, the bytes left. -/
structure St (rb : Nat) (w : World) (cs : Array Value) (xs : List UInt8) (wr : World) : Prop where
  zero : wr.heap[w.heap.size]? = some (.cells zc 25)
  own : wr.heap[w.heap.size + 1]? = some (.cells cs 25)
  rd : RdAt rb wr xs
  kept : Rd rb w wr
theorem RdAt.lt {rb : Nat} {w : World} {xs : List UInt8} (h : RdAt rb w xs) : rb < w.heap.size := let ⟨_, h1, _⟩ := h; lt_of_block h1
theorem St.start {rb : Nat} {w : World} {xs : List UInt8} (h : RdAt rb w xs) (k : Int) : St rb w (kc k) xs ((w.alloc (.cells zc 25)).alloc (.cells (kc k) 25)) := by
  have hb : Below w.heap.size w ((w.alloc (.cells zc 25)).alloc (.cells (kc k) 25)) := ((Below.refl _ w).alloc (Nat.le_refl _) _).alloc (by simp) _
  refine ⟨?_, ?_, h.rd hb, Rd.of hb⟩
  · rw [Below.heap_alloc _ _ _ (by simp)]; exact alloc_block w _
  · have := alloc_block (w.alloc (.cells zc 25)) (.cells (kc k) 25)
    rw [World.size_alloc] at this; exact this
theorem St.read {rb : Nat} {w wr w' : World} {cs : Array Value} {xs ys : List UInt8} (h : St rb w cs xs wr) (hl : rb < w.heap.size) (hr : RdAt rb w' ys) (hw : Rd rb wr w') : St rb w cs ys w' :=
  ⟨hw.on h.zero (by omega), hw.on h.own (by omega), hr, h.kept.trans hw⟩
theorem St.set {rb : Nat} {w wr : World} {cs : Array Value} {xs : List UInt8} (h : St rb w cs xs wr) (hl : rb < w.heap.size) (hno : NoB cs) (i : Nat) (u : Value) : St rb w (cs.setIfInBounds i u) xs (wr.setCell ⟨w.heap.size + 1, i, none⟩ u) :=
  ⟨(set_rd wr _ i u).on h.zero (by omega), set_block h.own u, h.rd.keep h.own hno (by omega) (set_rd wr _ i u), h.kept.set (by omega) u⟩
theorem noB_vals {k n a0 a1 a2 a3 a4 a5 a6 a7 : Int} {s : ByteArray} : NoB #[.int .i64 k, .int .i64 n, .string s, .int .i64 a0, .int .i64 a1, .int .i64 a2, .int .i64 a3, .int .i64 a4, .int .i64 a5, .int .i64 a6, .int .i64 a7] := by
  intro o t h
  have hlt : o < 11 := by have := (Array.getElem?_eq_some_iff.1 h).1; simpa using this
  rcases (show o = 0 ∨ o = 1 ∨ o = 2 ∨ o = 3 ∨ o = 4 ∨ o = 5 ∨ o = 6 ∨ o = 7 ∨ o = 8 ∨ o = 9 ∨ o = 10 by omega) with rfl | rfl | rfl | rfl | rfl | rfl | rfl | rfl | rfl | rfl | rfl <;> simp at h
def put11 (w : World) (b : Nat) (k n : Int) (s : ByteArray) (a0 a1 a2 a3 a4 a5 a6 a7 : Int) : World :=
  ((((((((((w.setCell ⟨b, 0, none⟩ (.int .i64 k)).setCell ⟨b, 1, none⟩ (.int .i64 n)).setCell ⟨b, 2, none⟩ (.string s)).setCell ⟨b, 3, none⟩ (.int .i64 a0)).setCell ⟨b, 4, none⟩ (.int .i64 a1)).setCell ⟨b, 5, none⟩ (.int .i64 a2)).setCell ⟨b, 6, none⟩ (.int .i64 a3)).setCell ⟨b, 7, none⟩ (.int .i64 a4)).setCell ⟨b, 8, none⟩ (.int .i64 a5)).setCell ⟨b, 9, none⟩ (.int .i64 a6)).setCell ⟨b, 10, none⟩ (.int .i64 a7)
theorem put11_rd (w : World) (b : Nat) (k n : Int) (s : ByteArray) (a0 a1 a2 a3 a4 a5 a6 a7 : Int) : Rd b w (put11 w b k n s a0 a1 a2 a3 a4 a5 a6 a7) := by
  unfold put11
  exact ((((((((((((set_rd _ _ _ _).trans (set_rd _ _ _ _)).trans (set_rd _ _ _ _)).trans (set_rd _ _ _ _)).trans (set_rd _ _ _ _)).trans (set_rd _ _ _ _)).trans (set_rd _ _ _ _)).trans (set_rd _ _ _ _)).trans (set_rd _ _ _ _)).trans (set_rd _ _ _ _)).trans (set_rd _ _ _ _)))
theorem put11_block {w : World} {b : Nat} (k n : Int) (s : ByteArray) (a0 a1 a2 a3 a4 a5 a6 a7 : Int) (h : w.heap[b]? = some (.cells zc 25)) : (put11 w b k n s a0 a1 a2 a3 a4 a5 a6 a7).heap[b]? = some (.cells #[.int .i64 k, .int .i64 n, .string s, .int .i64 a0, .int .i64 a1, .int .i64 a2, .int .i64 a3, .int .i64 a4, .int .i64 a5, .int .i64 a6, .int .i64 a7] 25) := by
  unfold put11
  have h0 : (w.setCell ⟨b, 0, none⟩ (.int .i64 k)).heap[b]? = some (.cells #[.int .i64 k, .int .i64 0, .string ⟨#[]⟩, .int .i64 0, .int .i64 0, .int .i64 0, .int .i64 0, .int .i64 0, .int .i64 0, .int .i64 0, .int .i64 0] 25) := set_block h _
  have h1 : ((w.setCell ⟨b, 0, none⟩ (.int .i64 k)).setCell ⟨b, 1, none⟩ (.int .i64 n)).heap[b]? = some (.cells #[.int .i64 k, .int .i64 n, .string ⟨#[]⟩, .int .i64 0, .int .i64 0, .int .i64 0, .int .i64 0, .int .i64 0, .int .i64 0, .int .i64 0, .int .i64 0] 25) := set_block h0 _
  have h2 : (((w.setCell ⟨b, 0, none⟩ (.int .i64 k)).setCell ⟨b, 1, none⟩ (.int .i64 n)).setCell ⟨b, 2, none⟩ (.string s)).heap[b]? = some (.cells #[.int .i64 k, .int .i64 n, .string s, .int .i64 0, .int .i64 0, .int .i64 0, .int .i64 0, .int .i64 0, .int .i64 0, .int .i64 0, .int .i64 0] 25) := set_block h1 _
  have h3 : ((((w.setCell ⟨b, 0, none⟩ (.int .i64 k)).setCell ⟨b, 1, none⟩ (.int .i64 n)).setCell ⟨b, 2, none⟩ (.string s)).setCell ⟨b, 3, none⟩ (.int .i64 a0)).heap[b]? = some (.cells #[.int .i64 k, .int .i64 n, .string s, .int .i64 a0, .int .i64 0, .int .i64 0, .int .i64 0, .int .i64 0, .int .i64 0, .int .i64 0, .int .i64 0] 25) := set_block h2 _
  have h4 : (((((w.setCell ⟨b, 0, none⟩ (.int .i64 k)).setCell ⟨b, 1, none⟩ (.int .i64 n)).setCell ⟨b, 2, none⟩ (.string s)).setCell ⟨b, 3, none⟩ (.int .i64 a0)).setCell ⟨b, 4, none⟩ (.int .i64 a1)).heap[b]? = some (.cells #[.int .i64 k, .int .i64 n, .string s, .int .i64 a0, .int .i64 a1, .int .i64 0, .int .i64 0, .int .i64 0, .int .i64 0, .int .i64 0, .int .i64 0] 25) := set_block h3 _
  have h5 : ((((((w.setCell ⟨b, 0, none⟩ (.int .i64 k)).setCell ⟨b, 1, none⟩ (.int .i64 n)).setCell ⟨b, 2, none⟩ (.string s)).setCell ⟨b, 3, none⟩ (.int .i64 a0)).setCell ⟨b, 4, none⟩ (.int .i64 a1)).setCell ⟨b, 5, none⟩ (.int .i64 a2)).heap[b]? = some (.cells #[.int .i64 k, .int .i64 n, .string s, .int .i64 a0, .int .i64 a1, .int .i64 a2, .int .i64 0, .int .i64 0, .int .i64 0, .int .i64 0, .int .i64 0] 25) := set_block h4 _
  have h6 : (((((((w.setCell ⟨b, 0, none⟩ (.int .i64 k)).setCell ⟨b, 1, none⟩ (.int .i64 n)).setCell ⟨b, 2, none⟩ (.string s)).setCell ⟨b, 3, none⟩ (.int .i64 a0)).setCell ⟨b, 4, none⟩ (.int .i64 a1)).setCell ⟨b, 5, none⟩ (.int .i64 a2)).setCell ⟨b, 6, none⟩ (.int .i64 a3)).heap[b]? = some (.cells #[.int .i64 k, .int .i64 n, .string s, .int .i64 a0, .int .i64 a1, .int .i64 a2, .int .i64 a3, .int .i64 0, .int .i64 0, .int .i64 0, .int .i64 0] 25) := set_block h5 _
  have h7 : ((((((((w.setCell ⟨b, 0, none⟩ (.int .i64 k)).setCell ⟨b, 1, none⟩ (.int .i64 n)).setCell ⟨b, 2, none⟩ (.string s)).setCell ⟨b, 3, none⟩ (.int .i64 a0)).setCell ⟨b, 4, none⟩ (.int .i64 a1)).setCell ⟨b, 5, none⟩ (.int .i64 a2)).setCell ⟨b, 6, none⟩ (.int .i64 a3)).setCell ⟨b, 7, none⟩ (.int .i64 a4)).heap[b]? = some (.cells #[.int .i64 k, .int .i64 n, .string s, .int .i64 a0, .int .i64 a1, .int .i64 a2, .int .i64 a3, .int .i64 a4, .int .i64 0, .int .i64 0, .int .i64 0] 25) := set_block h6 _
  have h8 : (((((((((w.setCell ⟨b, 0, none⟩ (.int .i64 k)).setCell ⟨b, 1, none⟩ (.int .i64 n)).setCell ⟨b, 2, none⟩ (.string s)).setCell ⟨b, 3, none⟩ (.int .i64 a0)).setCell ⟨b, 4, none⟩ (.int .i64 a1)).setCell ⟨b, 5, none⟩ (.int .i64 a2)).setCell ⟨b, 6, none⟩ (.int .i64 a3)).setCell ⟨b, 7, none⟩ (.int .i64 a4)).setCell ⟨b, 8, none⟩ (.int .i64 a5)).heap[b]? = some (.cells #[.int .i64 k, .int .i64 n, .string s, .int .i64 a0, .int .i64 a1, .int .i64 a2, .int .i64 a3, .int .i64 a4, .int .i64 a5, .int .i64 0, .int .i64 0] 25) := set_block h7 _
  have h9 : ((((((((((w.setCell ⟨b, 0, none⟩ (.int .i64 k)).setCell ⟨b, 1, none⟩ (.int .i64 n)).setCell ⟨b, 2, none⟩ (.string s)).setCell ⟨b, 3, none⟩ (.int .i64 a0)).setCell ⟨b, 4, none⟩ (.int .i64 a1)).setCell ⟨b, 5, none⟩ (.int .i64 a2)).setCell ⟨b, 6, none⟩ (.int .i64 a3)).setCell ⟨b, 7, none⟩ (.int .i64 a4)).setCell ⟨b, 8, none⟩ (.int .i64 a5)).setCell ⟨b, 9, none⟩ (.int .i64 a6)).heap[b]? = some (.cells #[.int .i64 k, .int .i64 n, .string s, .int .i64 a0, .int .i64 a1, .int .i64 a2, .int .i64 a3, .int .i64 a4, .int .i64 a5, .int .i64 a6, .int .i64 0] 25) := set_block h8 _
  have h10 : (((((((((((w.setCell ⟨b, 0, none⟩ (.int .i64 k)).setCell ⟨b, 1, none⟩ (.int .i64 n)).setCell ⟨b, 2, none⟩ (.string s)).setCell ⟨b, 3, none⟩ (.int .i64 a0)).setCell ⟨b, 4, none⟩ (.int .i64 a1)).setCell ⟨b, 5, none⟩ (.int .i64 a2)).setCell ⟨b, 6, none⟩ (.int .i64 a3)).setCell ⟨b, 7, none⟩ (.int .i64 a4)).setCell ⟨b, 8, none⟩ (.int .i64 a5)).setCell ⟨b, 9, none⟩ (.int .i64 a6)).setCell ⟨b, 10, none⟩ (.int .i64 a7)).heap[b]? = some (.cells #[.int .i64 k, .int .i64 n, .string s, .int .i64 a0, .int .i64 a1, .int .i64 a2, .int .i64 a3, .int .i64 a4, .int .i64 a5, .int .i64 a6, .int .i64 a7] 25) := set_block h9 _
  exact h10
theorem Rd.beside {rb b : Nat} {w w1 w2 : World} (h : Rd rb w w1) (h2 : Rd b w1 w2) (hb : w.heap.size ≤ b) : Rd rb w w2 :=
  ⟨h2.os.trans h.os, h2.tape.trans h.tape, h2.output.trans h.output, Nat.le_trans h.size h2.size, fun k hk hn => (h2.block k (Nat.lt_of_lt_of_le hk h.size) (by omega)).trans (h.block k hk hn)⟩
theorem val_tail {rb : Nat} {w w3 : World} {xs : List UInt8} (k n : Int) (s : ByteArray) (a0 a1 a2 a3 a4 a5 a6 a7 : Int) (h0 : w3.heap[w.heap.size]? = some (.cells zc 25)) (hr : RdAt rb w3 xs) (hk : Rd rb w w3) (hl : rb < w.heap.size) :
    (put11 w3 w.heap.size k n s a0 a1 a2 a3 a4 a5 a6 a7).heap[w.heap.size]? = some (.cells #[.int .i64 k, .int .i64 n, .string s, .int .i64 a0, .int .i64 a1, .int .i64 a2, .int .i64 a3, .int .i64 a4, .int .i64 a5, .int .i64 a6, .int .i64 a7] 25) ∧ RdAt rb (put11 w3 w.heap.size k n s a0 a1 a2 a3 a4 a5 a6 a7) xs ∧ Rd rb w (put11 w3 w.heap.size k n s a0 a1 a2 a3 a4 a5 a6 a7) :=
  ⟨put11_block _ _ _ _ _ _ _ _ _ _ _ h0, hr.keep h0 noB_vals (by omega) (put11_rd ..), hk.beside (put11_rd ..) (Nat.le_refl _)⟩
set_option maxRecDepth 100000 in
set_option maxHeartbeats 1000000 in
theorem value_1 {rb : Nat} {w : World} {xs : List UInt8} (h : RdAt rb w xs) (hn : 8 ≤ xs.length) :
    Calls Try.prog 33 #[.pointer (some ⟨rb, 0, none⟩), .int .i64 1] w fun e w' => e = .returned (V 1 (numB (xs.take 8)) ⟨#[]⟩ 0 0 0 0 0 0 0 0) ∧ RdAt rb w' (xs.drop 8) ∧ Rd rb w w' := by
  have HS := hid (St.start h 1)
  have HN := hid hn
  have hlt := h.lt
  clear h hn
  have hval : validB 1 (numB (xs.take 8)) ⟨#[]⟩ 0 0 0 0 0 0 0 0 = true := by simp [validB, noText, zeroH, eqH]
  have HV := hid hval
  generalize hy : numB (xs.take 8) = y at *
  have HY := hid hy
  clear hy
  clear hval
  go_enter Try.func33, Try.ntmps33
  go_wp2_with (first
    | (go_at_call 52; refine (number_yes (n := 8) HS.out.rd HN.out).mono ?_; rintro e w1 ⟨rfl, hr1, hw1⟩; rw [HY.out]; have HS1 := hid (HS.out.read hlt hr1 hw1); have HS2 := hid (HS1.out.set hlt noB_vals 1 (.int .i64 y)); have k0 := block_cell HS1.out.own; have z0 := block_frozen HS1.out.own; clear hr1 hw1)
    | (go_at_call 26; refine valid_any.mono ?_; rintro e w2 ⟨rfl, hb2⟩; rw [HV.out]; generalize World.setCell _ _ _ = w1' at *; clear k0 z0; have k1 := block_cell (block_on HS2.out.own hb2); have k2 := block_cell (block_on HS2.out.zero hb2); have z2 := block_frozen (block_on HS2.out.zero hb2); have HB2 := hid hb2; clear hb2)
    | (go_at_call 54; refine demand_true.mono ?_; rintro e w3 ⟨rfl, rfl⟩))
  have hT := val_tail 1 y ⟨#[]⟩ 0 0 0 0 0 0 0 0 (block_on HS2.out.zero HB2.out) (HS2.out.rd.rd HB2.out) (HS2.out.kept.trans (Rd.of HB2.out)) hlt
  unfold put11 at hT
  have HT := hid hT
  clear hT k1 k2 z2 HS2
  generalize World.setCell _ _ _ = W at *
  have kf := block_cell HT.out.1
  exact bodyPost_ret (v := V 1 y ⟨#[]⟩ 0 0 0 0 0 0 0 0) (by simp [results, Try.results33, go_sem, kf]) rfl ⟨rfl, HT.out.2.1, HT.out.2.2⟩
set_option maxRecDepth 100000 in
set_option maxHeartbeats 1000000 in
theorem value_2 {rb : Nat} {w : World} {c : UInt8} {xs : List UInt8} (h : RdAt rb w (c :: xs)) (hn : c.toNat ≤ xs.length) (h64 : c.toNat ≤ 64) :
    Calls Try.prog 33 #[.pointer (some ⟨rb, 0, none⟩), .int .i64 2] w fun e w' => e = .returned (V 2 0 ⟨(xs.take c.toNat).toArray⟩ 0 0 0 0 0 0 0 0) ∧ RdAt rb w' (xs.drop c.toNat) ∧ Rd rb w w' := by
  have HS := hid (St.start h 2)
  have HN := hid hn
  have hlt := h.lt
  clear h hn
  have hval : validB 2 0 ⟨(xs.take c.toNat).toArray⟩ 0 0 0 0 0 0 0 0 = true := by
    have : (ByteArray.mk (xs.take c.toNat).toArray).size ≤ 64 := by show (xs.take c.toNat).toArray.size ≤ 64; simp; omega
    simp [validB, zeroH, eqH, this]
  have HV := hid hval
  generalize hy : (⟨(xs.take c.toNat).toArray⟩ : ByteArray) = y at *
  have HY := hid hy
  clear hy h64
  clear hval
  go_enter Try.func33, Try.ntmps33
  go_wp2_with (first
    | (go_at_call 53; refine (text_yes HS.out.rd HN.out).mono ?_; rintro e w1 ⟨rfl, hr1, hw1⟩; rw [HY.out]; have HS1 := hid (HS.out.read hlt hr1 hw1); have HS2 := hid (HS1.out.set hlt noB_vals 2 (.string y)); have k0 := block_cell HS1.out.own; have z0 := block_frozen HS1.out.own; clear hr1 hw1)
    | (go_at_call 26; refine valid_any.mono ?_; rintro e w2 ⟨rfl, hb2⟩; rw [HV.out]; generalize World.setCell _ _ _ = w1' at *; clear k0 z0; have k1 := block_cell (block_on HS2.out.own hb2); have k2 := block_cell (block_on HS2.out.zero hb2); have z2 := block_frozen (block_on HS2.out.zero hb2); have HB2 := hid hb2; clear hb2)
    | (go_at_call 54; refine demand_true.mono ?_; rintro e w3 ⟨rfl, rfl⟩))
  have hT := val_tail 2 0 y 0 0 0 0 0 0 0 0 (block_on HS2.out.zero HB2.out) (HS2.out.rd.rd HB2.out) (HS2.out.kept.trans (Rd.of HB2.out)) hlt
  unfold put11 at hT
  have HT := hid hT
  clear hT k1 k2 z2 HS2
  generalize World.setCell _ _ _ = W at *
  have kf := block_cell HT.out.1
  exact bodyPost_ret (v := V 2 0 y 0 0 0 0 0 0 0 0) (by simp [results, Try.results33, go_sem, kf]) rfl ⟨rfl, HT.out.2.1, HT.out.2.2⟩
set_option maxRecDepth 100000 in
set_option maxHeartbeats 1000000 in
theorem value_3 {rb : Nat} {w : World} {c : UInt8} {xs : List UInt8} (h : RdAt rb w (c :: xs)) (hn : c.toNat ≤ 1) :
    Calls Try.prog 33 #[.pointer (some ⟨rb, 0, none⟩), .int .i64 3] w fun e w' => e = .returned (V 3 (c.toNat : Int) ⟨#[]⟩ 0 0 0 0 0 0 0 0) ∧ RdAt rb w' xs ∧ Rd rb w w' := by
  have HS := hid (St.start h 3)
  have HN := hid hn
  have hlt := h.lt
  clear h hn
  have hval : validB 3 (c.toNat : Int) ⟨#[]⟩ 0 0 0 0 0 0 0 0 = true := by
    have : (c.toNat : Int) = 0 ∨ (c.toNat : Int) = 1 := by have := HN.out; omega
    rcases this with e | e <;> rw [e] <;> decide
  have HV := hid hval
  generalize hy : (c.toNat : Int) = y at *
  have HY := hid hy
  clear hy
  clear hval
  go_enter Try.func33, Try.ntmps33
  go_wp2_with (first
    | (go_at_call 52; refine (number_one HS.out.rd).mono ?_; rintro e w1 ⟨rfl, hr1, hw1⟩; rw [HY.out]; have HS1 := hid (HS.out.read hlt hr1 hw1); have HS2 := hid (HS1.out.set hlt noB_vals 1 (.int .i64 y)); have k0 := block_cell HS1.out.own; have z0 := block_frozen HS1.out.own; clear hr1 hw1)
    | (go_at_call 26; refine valid_any.mono ?_; rintro e w2 ⟨rfl, hb2⟩; rw [HV.out]; generalize World.setCell _ _ _ = w1' at *; clear k0 z0; have k1 := block_cell (block_on HS2.out.own hb2); have k2 := block_cell (block_on HS2.out.zero hb2); have z2 := block_frozen (block_on HS2.out.zero hb2); have HB2 := hid hb2; clear hb2)
    | (go_at_call 54; refine demand_true.mono ?_; rintro e w3 ⟨rfl, rfl⟩))
  have hT := val_tail 3 y ⟨#[]⟩ 0 0 0 0 0 0 0 0 (block_on HS2.out.zero HB2.out) (HS2.out.rd.rd HB2.out) (HS2.out.kept.trans (Rd.of HB2.out)) hlt
  unfold put11 at hT
  have HT := hid hT
  clear hT k1 k2 z2 HS2
  generalize World.setCell _ _ _ = W at *
  have kf := block_cell HT.out.1
  exact bodyPost_ret (v := V 3 y ⟨#[]⟩ 0 0 0 0 0 0 0 0) (by simp [results, Try.results33, go_sem, kf]) rfl ⟨rfl, HT.out.2.1, HT.out.2.2⟩
end Go.Proofs.Ytnjeocjachmbkaa
namespace Go.Proofs.Ytnjeocjachmbkaa
open Go.RowKit Go.Sort

def gat (f : Nat → Int) (k i : Nat) : Int := if i < k then f i else 0
def hcells (f : Nat → Int) (k : Nat) : Array Value := #[.int .i64 4, .int .i64 0, .string ⟨#[]⟩, .int .i64 (gat f k 0), .int .i64 (gat f k 1), .int .i64 (gat f k 2), .int .i64 (gat f k 3), .int .i64 (gat f k 4), .int .i64 (gat f k 5), .int .i64 (gat f k 6), .int .i64 (gat f k 7)]
theorem hcells_zero (f : Nat → Int) : hcells f 0 = kc 4 := rfl
theorem hcells_set (f : Nat → Int) {k : Nat} (h : k < 8) : (hcells f k).setIfInBounds (3 + k) (.int .i64 (f k)) = hcells f (k + 1) := by
  rcases lt8 h with rfl | rfl | rfl | rfl | rfl | rfl | rfl | rfl <;> rfl
theorem hcells_at (f : Nat → Int) {k : Nat} (h : k < 8) : (hcells f k)[3 + k]? = some (.int .i64 0) := by
  rcases lt8 h with rfl | rfl | rfl | rfl | rfl | rfl | rfl | rfl <;> rfl
theorem noB_hcells (f : Nat → Int) (k : Nat) : NoB (hcells f k) := noB_vals
def bkt (xs : List UInt8) (i : Nat) : Int := numB ((xs.drop (8 * i)).take 8)
theorem drop_next (xs : List UInt8) (k : Nat) : (xs.drop (8 * k)).drop 8 = xs.drop (8 * (k + 1)) := by rw [List.drop_drop]; rfl
set_option maxRecDepth 100000 in
set_option maxHeartbeats 1000000 in
theorem value_4 {rb : Nat} {w : World} {xs : List UInt8} (h : RdAt rb w xs) (hn : 64 ≤ xs.length) :
    Calls Try.prog 33 #[.pointer (some ⟨rb, 0, none⟩), .int .i64 4] w fun e w' => e = .returned (V 4 0 ⟨#[]⟩ (bkt xs 0) (bkt xs 1) (bkt xs 2) (bkt xs 3) (bkt xs 4) (bkt xs 5) (bkt xs 6) (bkt xs 7)) ∧ RdAt rb w' (xs.drop 64) ∧ Rd rb w w' := by
  have HS := hid (St.start h 4)
  have HN := hid hn
  have hlt := h.lt
  clear h hn
  go_enter Try.func33, Try.ntmps33
  go_wp2
  go_loopw [28] (fun i wr => ∃ k : Nat, k ≤ 8 ∧ i = .int .i64 k ∧ Hid (St rb w (hcells (bkt xs) k) (xs.drop (8 * k)) wr)) (fun i _ => 8 - (intOf i).toNat)
  case atStart => exact ⟨0, by omega, rfl, HS.out⟩
  case round =>
    obtain ⟨k, hk, rfl, HR⟩ := hrel
    by_cases hk8 : k < 8
    · have hlen : 8 ≤ (xs.drop (8 * k)).length := by have := HN.out; rw [List.length_drop]; omega
      have HLEN := hid hlen
      clear hlen
      generalize hy : bkt xs k = y
      have HY := hid hy
      clear hy
      go_wp2_with (first
        | (go_at_call 52; refine (number_yes (n := 8) HR.out.rd HLEN.out).mono ?_; rintro e w1 ⟨rfl, hr1, hw1⟩; rw [show numB ((xs.drop (8 * k)).take 8) = y from HY.out]; have HS1 := hid (HR.out.read hlt hr1 hw1); have k0 := (block_cell HS1.out.own (3 + k)).trans (hcells_at (bkt xs) hk8); have z0 := block_frozen HS1.out.own (3 + k); clear hr1 hw1))
      go_roundw
      case rel =>
        have h2 := HS1.out.set hlt (noB_hcells _ _) (3 + k) (.int .i64 (bkt xs k))
        rw [hcells_set _ hk8, drop_next, HY.out] at h2
        exact ⟨k + 1, by omega, by go_num, h2⟩
      case measure => simp [intOf]; omega
    · obtain rfl : k = 8 := by omega
      have HS2 := hid HR.out
      have k0 := block_cell HR.out.own
      have hval : validB 4 0 ⟨#[]⟩ (bkt xs 0) (bkt xs 1) (bkt xs 2) (bkt xs 3) (bkt xs 4) (bkt xs 5) (bkt xs 6) (bkt xs 7) = true := by simp [validB, noText]
      have HV := hid hval
      clear hval HR HS
      have k0' : ∀ o, wr.cell? ⟨w.heap.size + 1, o, none⟩ = (#[.int .i64 4, .int .i64 0, .string ⟨#[]⟩, .int .i64 (bkt xs 0), .int .i64 (bkt xs 1), .int .i64 (bkt xs 2), .int .i64 (bkt xs 3), .int .i64 (bkt xs 4), .int .i64 (bkt xs 5), .int .i64 (bkt xs 6), .int .i64 (bkt xs 7)] : Array Value)[o]? := k0
      have HK0 := hid k0'
      clear k0
      generalize hb0 : bkt xs 0 = b0 at *
      generalize hb1 : bkt xs 1 = b1 at *
      generalize hb2 : bkt xs 2 = b2 at *
      generalize hb3 : bkt xs 3 = b3 at *
      generalize hb4 : bkt xs 4 = b4 at *
      generalize hb5 : bkt xs 5 = b5 at *
      generalize hb6 : bkt xs 6 = b6 at *
      generalize hb7 : bkt xs 7 = b7 at *
      have HE := hid (And.intro hb0 (And.intro hb1 (And.intro hb2 (And.intro hb3 (And.intro hb4 (And.intro hb5 (And.intro hb6 hb7)))))))
      clear hb0 hb1 hb2 hb3 hb4 hb5 hb6 hb7
      go_wp2_with (first
        | (go_at_call 26; refine valid_any.mono ?_; rintro e w2 ⟨rfl, hb2⟩; rw [HV.out]; have k1 : ∀ o, w2.cell? ⟨w.heap.size + 1, o, none⟩ = (#[.int .i64 4, .int .i64 0, .string ⟨#[]⟩, .int .i64 b0, .int .i64 b1, .int .i64 b2, .int .i64 b3, .int .i64 b4, .int .i64 b5, .int .i64 b6, .int .i64 b7] : Array Value)[o]? := (fun o => (hb2.cell (p := ⟨w.heap.size + 1, o, none⟩) (lt_of_block HS2.out.own)).trans (HK0.out o)); have k2 := block_cell (block_on HS2.out.zero hb2); have z2 := block_frozen (block_on HS2.out.zero hb2); have HB2 := hid hb2; clear hb2 k0')
        | (go_at_call 54; refine demand_true.mono ?_; rintro e w3 ⟨rfl, rfl⟩))
      have hT := val_tail 4 0 ⟨#[]⟩ b0 b1 b2 b3 b4 b5 b6 b7 (block_on HS2.out.zero HB2.out) (HS2.out.rd.rd HB2.out) (HS2.out.kept.trans (Rd.of HB2.out)) hlt
      unfold put11 at hT
      have HT := hid hT
      clear hT k1 k2 z2 HS2
      generalize World.setCell _ _ _ = W at *
      have kf := block_cell HT.out.1
      exact bodyPost_ret (v := V 4 0 ⟨#[]⟩ b0 b1 b2 b3 b4 b5 b6 b7) (by simp [results, Try.results33, go_sem, kf]) rfl ⟨by obtain ⟨e0, e1, e2, e3, e4, e5, e6, e7⟩ := HE.out; rw [e0, e1, e2, e3, e4, e5, e6, e7], HT.out.2.1, HT.out.2.2⟩
set_option maxRecDepth 100000 in
set_option maxHeartbeats 1000000 in
theorem value_1_no {rb : Nat} {w : World} {xs : List UInt8} (h : RdAt rb w xs) (hn : xs.length < 8) :
    Calls Try.prog 33 #[.pointer (some ⟨rb, 0, none⟩), .int .i64 1] w fun e w' => e = dies errB ∧ Rd rb w w' := by
  have HS := hid (St.start h 1)
  have HN := hid hn
  have hlt := h.lt
  clear h hn
  go_enter Try.func33, Try.ntmps33
  go_wp2_with (first
    | (go_at_call 52; refine (number_no (n := 8) HS.out.rd HN.out).mono ?_; rintro e w1 ⟨rfl, rfl⟩))
  exact ⟨rfl, rfl, HS.out.kept⟩
set_option maxRecDepth 100000 in
set_option maxHeartbeats 1000000 in
theorem value_2_short {rb : Nat} {w : World} {c : UInt8} {xs : List UInt8} (h : RdAt rb w (c :: xs)) (hn : xs.length < c.toNat) :
    Calls Try.prog 33 #[.pointer (some ⟨rb, 0, none⟩), .int .i64 2] w fun e w' => e = dies errB ∧ Rd rb w w' := by
  have HS := hid (St.start h 2)
  have HN := hid hn
  have hlt := h.lt
  clear h hn
  go_enter Try.func33, Try.ntmps33
  go_wp2_with (first
    | (go_at_call 53; refine (text_short HS.out.rd HN.out).mono ?_; rintro e w1 ⟨rfl, hw1⟩))
  exact ⟨rfl, rfl, HS.out.kept.trans hw1⟩
set_option maxRecDepth 100000 in
set_option maxHeartbeats 1000000 in
theorem value_2_none {rb : Nat} {w : World} {xs : List UInt8} (h : RdAt rb w xs) (hn : xs = []) :
    Calls Try.prog 33 #[.pointer (some ⟨rb, 0, none⟩), .int .i64 2] w fun e w' => e = dies errB ∧ Rd rb w w' := by
  have HS := hid (St.start h 2)
  have HN := hid hn
  have hlt := h.lt
  clear h hn
  go_enter Try.func33, Try.ntmps33
  go_wp2_with (first
    | (go_at_call 53; refine (text_none (by have := HS.out.rd; rw [HN.out] at this; exact this)).mono ?_; rintro e w1 ⟨rfl, hw1⟩))
  exact ⟨rfl, rfl, HS.out.kept.trans hw1⟩
set_option maxRecDepth 100000 in
set_option maxHeartbeats 1000000 in
theorem value_3_none {rb : Nat} {w : World} {xs : List UInt8} (h : RdAt rb w xs) (hn : xs = []) :
    Calls Try.prog 33 #[.pointer (some ⟨rb, 0, none⟩), .int .i64 3] w fun e w' => e = dies errB ∧ Rd rb w w' := by
  have HS := hid (St.start h 3)
  have HN := hid hn
  have hlt := h.lt
  clear h hn
  go_enter Try.func33, Try.ntmps33
  go_wp2_with (first
    | (go_at_call 52; refine (number_no (n := 1) HS.out.rd (by rw [HN.out]; decide)).mono ?_; rintro e w1 ⟨rfl, rfl⟩))
  exact ⟨rfl, rfl, HS.out.kept⟩
set_option maxRecDepth 100000 in
set_option maxHeartbeats 1000000 in
theorem value_2_long {rb : Nat} {w : World} {c : UInt8} {xs : List UInt8} (h : RdAt rb w (c :: xs)) (hn : c.toNat ≤ xs.length) (h64 : 64 < c.toNat) :
    Calls Try.prog 33 #[.pointer (some ⟨rb, 0, none⟩), .int .i64 2] w fun e w' => e = dies errB ∧ Rd rb w w' := by
  have HS := hid (St.start h 2)
  have HN := hid hn
  have hlt := h.lt
  clear h hn
  have hval : validB 2 0 ⟨(xs.take c.toNat).toArray⟩ 0 0 0 0 0 0 0 0 = false := by
    have : ¬ (ByteArray.mk (xs.take c.toNat).toArray).size ≤ 64 := by show ¬ (xs.take c.toNat).toArray.size ≤ 64; have := HN.out; simp; omega
    simp [validB, this]
  have HV := hid hval
  generalize hy : (⟨(xs.take c.toNat).toArray⟩ : ByteArray) = y at *
  have HY := hid hy
  clear hy h64 hval
  go_enter Try.func33, Try.ntmps33
  go_wp2_with (first
    | (go_at_call 53; refine (text_yes HS.out.rd HN.out).mono ?_; rintro e w1 ⟨rfl, hr1, hw1⟩; rw [HY.out]; have HS1 := hid (HS.out.read hlt hr1 hw1); have HS2 := hid (HS1.out.set hlt noB_vals 2 (.string y)); have k0 := block_cell HS1.out.own; have z0 := block_frozen HS1.out.own; clear hr1 hw1)
    | (go_at_call 26; refine valid_any.mono ?_; rintro e w2 ⟨rfl, hb2⟩; rw [HV.out]; generalize World.setCell _ _ _ = w1' at *; clear k0 z0)
    | (go_at_call 54; refine demand_false.mono ?_; rintro e w3 ⟨rfl, rfl⟩))
  exact ⟨rfl, rfl, HS2.out.kept.trans (Rd.of hb2)⟩
set_option maxRecDepth 100000 in
set_option maxHeartbeats 1000000 in
theorem value_3_no {rb : Nat} {w : World} {c : UInt8} {xs : List UInt8} (h : RdAt rb w (c :: xs)) (hn : 1 < c.toNat) :
    Calls Try.prog 33 #[.pointer (some ⟨rb, 0, none⟩), .int .i64 3] w fun e w' => e = dies errB ∧ Rd rb w w' := by
  have HS := hid (St.start h 3)
  have HN := hid hn
  have hlt := h.lt
  clear h hn
  have hval : validB 3 (c.toNat : Int) ⟨#[]⟩ 0 0 0 0 0 0 0 0 = false := by
    have : ¬ ((c.toNat : Int) = 0 ∨ (c.toNat : Int) = 1) := by have := HN.out; omega
    unfold validB
    rw [if_neg (by decide), if_neg (by decide), if_pos rfl, decide_eq_false this]; rfl
  have HV := hid hval
  generalize hy : (c.toNat : Int) = y at *
  have HY := hid hy
  clear hy hval
  go_enter Try.func33, Try.ntmps33
  go_wp2_with (first
    | (go_at_call 52; refine (number_one HS.out.rd).mono ?_; rintro e w1 ⟨rfl, hr1, hw1⟩; rw [HY.out]; have HS1 := hid (HS.out.read hlt hr1 hw1); have HS2 := hid (HS1.out.set hlt noB_vals 1 (.int .i64 y)); have k0 := block_cell HS1.out.own; have z0 := block_frozen HS1.out.own; clear hr1 hw1)
    | (go_at_call 26; refine valid_any.mono ?_; rintro e w2 ⟨rfl, hb2⟩; rw [HV.out]; generalize World.setCell _ _ _ = w1' at *; clear k0 z0)
    | (go_at_call 54; refine demand_false.mono ?_; rintro e w3 ⟨rfl, rfl⟩))
  exact ⟨rfl, rfl, HS2.out.kept.trans (Rd.of hb2)⟩
set_option maxRecDepth 100000 in
set_option maxHeartbeats 1000000 in
theorem value_4_no {rb : Nat} {w : World} {xs : List UInt8} (h : RdAt rb w xs) (hn : xs.length < 64) :
    Calls Try.prog 33 #[.pointer (some ⟨rb, 0, none⟩), .int .i64 4] w fun e w' => e = dies errB ∧ Rd rb w w' := by
  have HS := hid (St.start h 4)
  have HN := hid hn
  have hlt := h.lt
  clear h hn
  go_enter Try.func33, Try.ntmps33
  go_wp2
  go_loopw [28] (fun i wr => ∃ k : Nat, (k < 8 ∧ 8 * k ≤ xs.length) ∧ i = .int .i64 k ∧ Hid (St rb w (hcells (bkt xs) k) (xs.drop (8 * k)) wr)) (fun i _ => 8 - (intOf i).toNat)
  case atStart => exact ⟨0, by omega, rfl, HS.out⟩
  case round =>
    obtain ⟨k, ⟨hk8, hk⟩, rfl, HR⟩ := hrel
    have HK := hid hk
    clear hk
    by_cases hr : 8 * k + 8 ≤ xs.length
    · have hlen : 8 ≤ (xs.drop (8 * k)).length := by rw [List.length_drop]; omega
      have HLEN := hid hlen
      have hk7 : k + 1 < 8 := by have := HN.out; omega
      have HR8 := hid hr
      clear hlen hr
      generalize hy : bkt xs k = y
      have HY := hid hy
      clear hy
      go_wp2_with (first
        | (go_at_call 52; refine (number_yes (n := 8) HR.out.rd HLEN.out).mono ?_; rintro e w1 ⟨rfl, hr1, hw1⟩; rw [show numB ((xs.drop (8 * k)).take 8) = y from HY.out]; have HS1 := hid (HR.out.read hlt hr1 hw1); have k0 := (block_cell HS1.out.own (3 + k)).trans (hcells_at (bkt xs) hk8); have z0 := block_frozen HS1.out.own (3 + k); clear hr1 hw1))
      go_roundw
      case rel =>
        have h2 := HS1.out.set hlt (noB_hcells _ _) (3 + k) (.int .i64 (bkt xs k))
        rw [hcells_set _ hk8, drop_next, HY.out] at h2
        exact ⟨k + 1, ⟨hk7, by have := HR8.out; omega⟩, by go_num, h2⟩
      case measure => simp [intOf]; omega
    · have hlen : (xs.drop (8 * k)).length < 8 := by rw [List.length_drop]; omega
      have HLEN := hid hlen
      clear hlen hr
      go_wp2_with (first
        | (go_at_call 52; refine (number_no (n := 8) HR.out.rd HLEN.out).mono ?_; rintro e w1 ⟨rfl, rfl⟩))
      exact ⟨rfl, rfl, HR.out.kept⟩
set_option maxRecDepth 100000 in
set_option maxHeartbeats 1000000 in
theorem value_kind {rb : Nat} {w : World} {xs : List UInt8} {k : Int} (h : RdAt rb w xs) (e1 : (k == 1) = false) (e2 : (k == 2) = false) (e3 : (k == 3) = false) (e4 : (k == 4) = false) :
    Calls Try.prog 33 #[.pointer (some ⟨rb, 0, none⟩), .int .i64 k] w fun e w' => e = dies errK ∧ Rd rb w w' := by
  have HS := hid (St.start h k)
  clear h
  go_enter Try.func33, Try.ntmps33
  go_wp2
  exact ⟨rfl, rfl, HS.out.kept⟩
end Go.Proofs.Ytnjeocjachmbkaa
namespace Go.Proofs.Ytnjeocjachmbkaa
open Go.RowKit Go.Sort

theorem told_nil {w : World} : Calls Try.prog 32 #[.nilIface] w fun e w' => e = .returned (.int .i64 0) ∧ w' = w := by
  go_enter Try.func32, Try.ntmps32
  go_wp2
  go_ret
  exact ⟨rfl, rfl⟩
set_option maxRecDepth 100000 in
theorem told_err {n : Int} {w : World} : Calls Try.prog 32 #[.iface 27 (.int .i64 n)] w fun e w' => e = .returned (.int .i64 n) ∧ w' = w := by
  have ta : ∀ w, (Instr.typeAssert (.iface 27 (.int .i64 n)) 20 27 true).run Try.prog w = .ok (.tuple #[.int .i64 n, .bool true]) w := fun w => by kernel_rfl
  go_enter Try.func32, Try.ntmps32
  go_wp2
  go_ret
  exact ⟨rfl, rfl⟩
set_option maxHeartbeats 400000 in
theorem cloneB_any {v : Value} {xs : List UInt8} {w : World} (hv : BAt w v xs) (hl : xs.length ≤ 140737488355328) :
    Calls Try.prog 28 #[v] w fun e w' => ∃ v', e = .returned v' ∧ OwnB w.heap.size w' v' xs ∧ Below w.heap.size w w' := by
  have HV := hid hv
  have HL := hid hl
  clear hl
  obtain ⟨p, cap, rfl, hcap, hnone, hmax, hx⟩ := hv
  have q41 : ∀ (w : World) (a : Option Addr) (n c n' c' : Nat), (binOp .eql 22 (.slice a n c) (.slice none n' c')).run Try.prog w = .ok (.bool a.isNone) w := fun w a n c n' c' => Lib.run_eql_slice_nil w _ _ a n c n' c' Try.underlying22
  cases p with
  | none =>
    have hn : xs = [] := by
      cases xs with
      | nil => rfl
      | cons y r => obtain ⟨b, hp, _⟩ := hx (by simp); cases hp
    subst hn
    clear hx hcap hmax hnone
    go_enter Try.func28, Try.ntmps28
    go_wp2
    go_ret
    exact ⟨_, rfl, OwnB.nil _ _, Below.refl _ _⟩
  | some ad =>
    clear hx hcap hmax hnone
    generalize xs.length = n at *
    go_enter Try.func28, Try.ntmps28
    go_wp2_with (at_builtin; refine appB_any rfl _ _ rfl rfl (OwnB.made w.heap.size w (Nat.le_refl _)) rfl (BAt.on HV.out ((Below.refl _ _).alloc (Nat.le_refl _) _)) (by obtain ⟨_, _, e, _⟩ := HV.out; injection e with _ e; simp; rw [← e]; exact HL.out) (by simp) ?_; intro v' w1 hown hb1)
    go_ret
    exact ⟨_, rfl, by rw [List.nil_append] at hown; exact hown, ((Below.refl _ _).alloc (Nat.le_refl _) _).trans hb1⟩
theorem catch_panicking {p : Addr} {x n : Int} {older : List PanicEntry} {w : World} (hc : w.cell? p = some (.int .i64 x)) (hz : w.frozen? p = false) :
    CallsD Try.prog 31 #[.pointer (some p)] (.panicking ({ v := .iface 27 (.int .i64 n), recovered := false } :: older)) w fun e u' w' =>
      e = .returned (.tuple #[]) ∧ u' = .panicking ({ v := .iface 27 (.int .i64 n), recovered := true } :: older) ∧ w' = w.setCell p (.int .i64 n) := by
  refine callsD_of_wpS Try.func31 rfl fun c₀ cs hu => ?_
  apply wpS_region
  simp [wpOpsS, go_sem, recoverD, hu, Try.ntmps31]
  refine told_err.mono ?_
  rintro e w1 ⟨rfl, rfl⟩
  simp [go_sem, hc, hz, bodyPostS, results, Try.results31]
theorem catch_idle {p : Addr} {x : Int} {w : World} (hc : w.cell? p = some (.int .i64 x)) (hz : w.frozen? p = false) :
    CallsD Try.prog 31 #[.pointer (some p)] .returning w fun e u' w' => e = .returned (.tuple #[]) ∧ u' = .returning ∧ w' = w.setCell p (.int .i64 0) := by
  refine callsD_of_wpS Try.func31 rfl fun c₀ cs hu => ?_
  apply wpS_region
  simp [wpOpsS, go_sem, recoverD, hu, Try.ntmps31]
  refine told_nil.mono ?_
  rintro e w1 ⟨rfl, rfl⟩
  simp [go_sem, hc, hz, bodyPostS, results, Try.results31]
  cases c₀
  simp_all
theorem catch_panicking' {p : Addr} {x n : Int} {older : List PanicEntry} {w : World} (hc : w.cell? p = some (.int .i64 x)) (hz : w.frozen? p = false) :
    CallsD Try.prog 44 #[.pointer (some p)] (.panicking ({ v := .iface 27 (.int .i64 n), recovered := false } :: older)) w fun e u' w' =>
      e = .returned (.tuple #[]) ∧ u' = .panicking ({ v := .iface 27 (.int .i64 n), recovered := true } :: older) ∧ w' = w.setCell p (.int .i64 n) := by
  refine callsD_of_wpS Try.func44 rfl fun c₀ cs hu => ?_
  apply wpS_region
  simp [wpOpsS, go_sem, recoverD, hu, Try.ntmps44]
  refine told_err.mono ?_
  rintro e w1 ⟨rfl, rfl⟩
  simp [go_sem, hc, hz, bodyPostS, results, Try.results44]
theorem catch_idle' {p : Addr} {x : Int} {w : World} (hc : w.cell? p = some (.int .i64 x)) (hz : w.frozen? p = false) :
    CallsD Try.prog 44 #[.pointer (some p)] .returning w fun e u' w' => e = .returned (.tuple #[]) ∧ u' = .returning ∧ w' = w.setCell p (.int .i64 0) := by
  refine callsD_of_wpS Try.func44 rfl fun c₀ cs hu => ?_
  apply wpS_region
  simp [wpOpsS, go_sem, recoverD, hu, Try.ntmps44]
  refine told_nil.mono ?_
  rintro e w1 ⟨rfl, rfl⟩
  simp [go_sem, hc, hz, bodyPostS, results, Try.results44]
  cases c₀
  simp_all
end Go.Proofs.Ytnjeocjachmbkaa
namespace Go.Proofs.Ytnjeocjachmbkaa
open Go.RowKit Go.Sort

theorem small0 : (ByteArray.mk #[]).size ≤ maxLen := by decide
theorem smallTake (xs : List UInt8) (c : UInt8) : (ByteArray.mk (xs.take c.toNat).toArray).size ≤ maxLen := by
  show (xs.take c.toNat).toArray.size ≤ maxLen
  have := c.toNat_lt
  simp [maxLen]; omega
abbrev vInt (xs : List UInt8) : Vl := ⟨1, numB (xs.take 8), ⟨#[]⟩, 0, 0, 0, 0, 0, 0, 0, 0, small0⟩
abbrev vStr (xs : List UInt8) (c : UInt8) : Vl := ⟨2, 0, ⟨(xs.take c.toNat).toArray⟩, 0, 0, 0, 0, 0, 0, 0, 0, smallTake xs c⟩
abbrev vBool (c : UInt8) : Vl := ⟨3, (c.toNat : Int), ⟨#[]⟩, 0, 0, 0, 0, 0, 0, 0, 0, small0⟩
abbrev vHist (xs : List UInt8) : Vl := ⟨4, 0, ⟨#[]⟩, bkt xs 0, bkt xs 1, bkt xs 2, bkt xs 3, bkt xs 4, bkt xs 5, bkt xs 6, bkt xs 7, small0⟩
def takeV (k : Int) (xs : List UInt8) : Option (Vl × List UInt8) :=
  if k = 1 then (if 8 ≤ xs.length then some (vInt xs, xs.drop 8) else none)
  else if k = 2 then (match xs with | [] => none | c :: r => if c.toNat ≤ r.length ∧ c.toNat ≤ 64 then some (vStr r c, r.drop c.toNat) else none)
  else if k = 3 then (match xs with | [] => none | c :: r => if c.toNat ≤ 1 then some (vBool c, r) else none)
  else if k = 4 then (if 64 ≤ xs.length then some (vHist xs, xs.drop 64) else none)
  else none
theorem value_some {rb : Nat} {w : World} {xs r : List UInt8} {k : Int} {x : Vl} (h : RdAt rb w xs) (ht : takeV k xs = some (x, r)) :
    Calls Try.prog 33 #[.pointer (some ⟨rb, 0, none⟩), .int .i64 k] w fun e w' => e = .returned x.val ∧ RdAt rb w' r ∧ Rd rb w w' := by
  unfold takeV at ht
  split at ht
  · rename_i hk; subst hk
    split at ht
    · rename_i hn; cases ht; exact value_1 h hn
    · cases ht
  · split at ht
    · rename_i hk; subst hk
      split at ht
      · cases ht
      · split at ht
        · rename_i hn; cases ht; exact value_2 h hn.1 hn.2
        · cases ht
    · split at ht
      · rename_i hk; subst hk
        split at ht
        · cases ht
        · split at ht
          · rename_i hn; cases ht; exact value_3 h hn
          · cases ht
      · split at ht
        · rename_i hk; subst hk
          split at ht
          · rename_i hn; cases ht; exact value_4 h hn
          · cases ht
        · cases ht
theorem value_none {rb : Nat} {w : World} {xs : List UInt8} {k : Int} (h : RdAt rb w xs) (hk : 1 ≤ k ∧ k ≤ 4) (ht : takeV k xs = none) :
    Calls Try.prog 33 #[.pointer (some ⟨rb, 0, none⟩), .int .i64 k] w fun e w' => e = dies errB ∧ Rd rb w w' := by
  unfold takeV at ht
  split at ht
  · rename_i hk; subst hk
    split at ht
    · cases ht
    · exact value_1_no h (by omega)
  · split at ht
    · rename_i hk; subst hk
      split at ht
      · exact value_2_none h rfl
      · split at ht
        · cases ht
        · rename_i c r hn
          by_cases h1 : c.toNat ≤ r.length
          · exact value_2_long h h1 (by omega)
          · exact value_2_short h (by omega)
    · split at ht
      · rename_i hk; subst hk
        split at ht
        · exact value_3_none h rfl
        · split at ht
          · cases ht
          · exact value_3_no h (by omega)
      · split at ht
        · rename_i hk; subst hk
          split at ht
          · cases ht
          · exact value_4_no h (by omega)
        · omega
theorem value_bad {rb : Nat} {w : World} {xs : List UInt8} {k : Int} (h : RdAt rb w xs) (hk : ¬ (1 ≤ k ∧ k ≤ 4)) :
    Calls Try.prog 33 #[.pointer (some ⟨rb, 0, none⟩), .int .i64 k] w fun e w' => e = dies errK ∧ Rd rb w w' :=
  value_kind h (by rw [Bool.eq_false_iff]; intro e; have := beq_iff_eq.1 e; omega) (by rw [Bool.eq_false_iff]; intro e; have := beq_iff_eq.1 e; omega) (by rw [Bool.eq_false_iff]; intro e; have := beq_iff_eq.1 e; omega) (by rw [Bool.eq_false_iff]; intro e; have := beq_iff_eq.1 e; omega)
end Go.Proofs.Ytnjeocjachmbkaa
namespace Go.Proofs.Ytnjeocjachmbkaa
open Go.RowKit Go.Sort

theorem no_other {c : Code} {K : Act → World → Prop} {Q : Exit → Act → World → Prop} {a : Act} {w : World} (h : Code.wp Try.prog c (Exit.then K (fun _ _ _ => False)) a w) : Code.wp Try.prog c (Exit.then K Q) a w := by
  refine Code.wp_mono (fun e a w hq => ?_) h
  cases e with
  | normal => exact hq
  | _ => exact False.elim hq
/- Take's three blocks: the value's, the error's, the reader's. -/
abbrev takeW (w : World) (v : Value) : World := ((w.alloc (.cells zc 25)).alloc (.cells #[.int .i64 0] 27)).alloc (.cells #[v] 73)
structure Tk (w : World) (cs : Array Value) (e : Int) (xs : List UInt8) (wr : World) : Prop where
  val : wr.heap[w.heap.size]? = some (.cells cs 25)
  err : wr.heap[w.heap.size + 1]? = some (.cells #[.int .i64 e] 27)
  rd : RdAt (w.heap.size + 2) wr xs
  kept : Below w.heap.size w wr
theorem Tk.start {w : World} {v : Value} {xs : List UInt8} (h : BAt w v xs) : Tk w zc 0 xs (takeW w v) := by
  have h1 := alloc_block w (.cells zc 25)
  have h2 := alloc_block (w.alloc (.cells zc 25)) (.cells #[.int .i64 0] 27)
  have h3 := alloc_block ((w.alloc (.cells zc 25)).alloc (.cells #[.int .i64 0] 27)) (.cells #[v] 73)
  have hb : Below w.heap.size w (takeW w v) := (((Below.refl _ w).alloc (Nat.le_refl _) _).alloc (by simp) _).alloc (by simp; omega) _
  simp only [World.size_alloc] at h2 h3
  refine ⟨?_, ?_, ⟨v, h3, h.on hb⟩, hb⟩
  · rw [Below.heap_alloc _ _ _ (by simp; omega), Below.heap_alloc _ _ _ (by simp)]; exact h1
  · rw [Below.heap_alloc _ _ _ (by simp)]; exact h2
theorem Tk.read {w wr w' : World} {cs : Array Value} {e : Int} {xs ys : List UInt8} (h : Tk w cs e xs wr) (hr : RdAt (w.heap.size + 2) w' ys) (hw : Rd (w.heap.size + 2) wr w') : Tk w cs e ys w' :=
  ⟨hw.on h.val (by omega), hw.on h.err (by omega), hr, h.kept.trans (hw.below (by omega) h.kept.size)⟩
theorem put11_over {w : World} {b : Nat} {d0 d1 d2 d3 d4 d5 d6 d7 d8 d9 d10 : Value} (k n : Int) (s : ByteArray) (a0 a1 a2 a3 a4 a5 a6 a7 : Int) (h : w.heap[b]? = some (.cells #[d0, d1, d2, d3, d4, d5, d6, d7, d8, d9, d10] 25)) : (put11 w b k n s a0 a1 a2 a3 a4 a5 a6 a7).heap[b]? = some (.cells #[.int .i64 k, .int .i64 n, .string s, .int .i64 a0, .int .i64 a1, .int .i64 a2, .int .i64 a3, .int .i64 a4, .int .i64 a5, .int .i64 a6, .int .i64 a7] 25) := by
  unfold put11
  have h0 : (w.setCell ⟨b, 0, none⟩ (.int .i64 k)).heap[b]? = some (.cells #[.int .i64 k, d1, d2, d3, d4, d5, d6, d7, d8, d9, d10] 25) := set_block h _
  have h1 : ((w.setCell ⟨b, 0, none⟩ (.int .i64 k)).setCell ⟨b, 1, none⟩ (.int .i64 n)).heap[b]? = some (.cells #[.int .i64 k, .int .i64 n, d2, d3, d4, d5, d6, d7, d8, d9, d10] 25) := set_block h0 _
  have h2 : (((w.setCell ⟨b, 0, none⟩ (.int .i64 k)).setCell ⟨b, 1, none⟩ (.int .i64 n)).setCell ⟨b, 2, none⟩ (.string s)).heap[b]? = some (.cells #[.int .i64 k, .int .i64 n, .string s, d3, d4, d5, d6, d7, d8, d9, d10] 25) := set_block h1 _
  have h3 : ((((w.setCell ⟨b, 0, none⟩ (.int .i64 k)).setCell ⟨b, 1, none⟩ (.int .i64 n)).setCell ⟨b, 2, none⟩ (.string s)).setCell ⟨b, 3, none⟩ (.int .i64 a0)).heap[b]? = some (.cells #[.int .i64 k, .int .i64 n, .string s, .int .i64 a0, d4, d5, d6, d7, d8, d9, d10] 25) := set_block h2 _
  have h4 : (((((w.setCell ⟨b, 0, none⟩ (.int .i64 k)).setCell ⟨b, 1, none⟩ (.int .i64 n)).setCell ⟨b, 2, none⟩ (.string s)).setCell ⟨b, 3, none⟩ (.int .i64 a0)).setCell ⟨b, 4, none⟩ (.int .i64 a1)).heap[b]? = some (.cells #[.int .i64 k, .int .i64 n, .string s, .int .i64 a0, .int .i64 a1, d5, d6, d7, d8, d9, d10] 25) := set_block h3 _
  have h5 : ((((((w.setCell ⟨b, 0, none⟩ (.int .i64 k)).setCell ⟨b, 1, none⟩ (.int .i64 n)).setCell ⟨b, 2, none⟩ (.string s)).setCell ⟨b, 3, none⟩ (.int .i64 a0)).setCell ⟨b, 4, none⟩ (.int .i64 a1)).setCell ⟨b, 5, none⟩ (.int .i64 a2)).heap[b]? = some (.cells #[.int .i64 k, .int .i64 n, .string s, .int .i64 a0, .int .i64 a1, .int .i64 a2, d6, d7, d8, d9, d10] 25) := set_block h4 _
  have h6 : (((((((w.setCell ⟨b, 0, none⟩ (.int .i64 k)).setCell ⟨b, 1, none⟩ (.int .i64 n)).setCell ⟨b, 2, none⟩ (.string s)).setCell ⟨b, 3, none⟩ (.int .i64 a0)).setCell ⟨b, 4, none⟩ (.int .i64 a1)).setCell ⟨b, 5, none⟩ (.int .i64 a2)).setCell ⟨b, 6, none⟩ (.int .i64 a3)).heap[b]? = some (.cells #[.int .i64 k, .int .i64 n, .string s, .int .i64 a0, .int .i64 a1, .int .i64 a2, .int .i64 a3, d7, d8, d9, d10] 25) := set_block h5 _
  have h7 : ((((((((w.setCell ⟨b, 0, none⟩ (.int .i64 k)).setCell ⟨b, 1, none⟩ (.int .i64 n)).setCell ⟨b, 2, none⟩ (.string s)).setCell ⟨b, 3, none⟩ (.int .i64 a0)).setCell ⟨b, 4, none⟩ (.int .i64 a1)).setCell ⟨b, 5, none⟩ (.int .i64 a2)).setCell ⟨b, 6, none⟩ (.int .i64 a3)).setCell ⟨b, 7, none⟩ (.int .i64 a4)).heap[b]? = some (.cells #[.int .i64 k, .int .i64 n, .string s, .int .i64 a0, .int .i64 a1, .int .i64 a2, .int .i64 a3, .int .i64 a4, d8, d9, d10] 25) := set_block h6 _
  have h8 : (((((((((w.setCell ⟨b, 0, none⟩ (.int .i64 k)).setCell ⟨b, 1, none⟩ (.int .i64 n)).setCell ⟨b, 2, none⟩ (.string s)).setCell ⟨b, 3, none⟩ (.int .i64 a0)).setCell ⟨b, 4, none⟩ (.int .i64 a1)).setCell ⟨b, 5, none⟩ (.int .i64 a2)).setCell ⟨b, 6, none⟩ (.int .i64 a3)).setCell ⟨b, 7, none⟩ (.int .i64 a4)).setCell ⟨b, 8, none⟩ (.int .i64 a5)).heap[b]? = some (.cells #[.int .i64 k, .int .i64 n, .string s, .int .i64 a0, .int .i64 a1, .int .i64 a2, .int .i64 a3, .int .i64 a4, .int .i64 a5, d9, d10] 25) := set_block h7 _
  have h9 : ((((((((((w.setCell ⟨b, 0, none⟩ (.int .i64 k)).setCell ⟨b, 1, none⟩ (.int .i64 n)).setCell ⟨b, 2, none⟩ (.string s)).setCell ⟨b, 3, none⟩ (.int .i64 a0)).setCell ⟨b, 4, none⟩ (.int .i64 a1)).setCell ⟨b, 5, none⟩ (.int .i64 a2)).setCell ⟨b, 6, none⟩ (.int .i64 a3)).setCell ⟨b, 7, none⟩ (.int .i64 a4)).setCell ⟨b, 8, none⟩ (.int .i64 a5)).setCell ⟨b, 9, none⟩ (.int .i64 a6)).heap[b]? = some (.cells #[.int .i64 k, .int .i64 n, .string s, .int .i64 a0, .int .i64 a1, .int .i64 a2, .int .i64 a3, .int .i64 a4, .int .i64 a5, .int .i64 a6, d10] 25) := set_block h8 _
  have h10 : (((((((((((w.setCell ⟨b, 0, none⟩ (.int .i64 k)).setCell ⟨b, 1, none⟩ (.int .i64 n)).setCell ⟨b, 2, none⟩ (.string s)).setCell ⟨b, 3, none⟩ (.int .i64 a0)).setCell ⟨b, 4, none⟩ (.int .i64 a1)).setCell ⟨b, 5, none⟩ (.int .i64 a2)).setCell ⟨b, 6, none⟩ (.int .i64 a3)).setCell ⟨b, 7, none⟩ (.int .i64 a4)).setCell ⟨b, 8, none⟩ (.int .i64 a5)).setCell ⟨b, 9, none⟩ (.int .i64 a6)).setCell ⟨b, 10, none⟩ (.int .i64 a7)).heap[b]? = some (.cells #[.int .i64 k, .int .i64 n, .string s, .int .i64 a0, .int .i64 a1, .int .i64 a2, .int .i64 a3, .int .i64 a4, .int .i64 a5, .int .i64 a6, .int .i64 a7] 25) := set_block h9 _
  exact h10
theorem Tk.put {w wr : World} {d0 d1 d2 d3 d4 d5 d6 d7 d8 d9 d10 : Value} {e : Int} {xs : List UInt8} (x : Vl) (h : Tk w #[d0, d1, d2, d3, d4, d5, d6, d7, d8, d9, d10] e xs wr) (hno : NoB #[d0, d1, d2, d3, d4, d5, d6, d7, d8, d9, d10]) : Tk w (vcl x) e xs (put11 wr w.heap.size x.k x.n x.s x.h0 x.h1 x.h2 x.h3 x.h4 x.h5 x.h6 x.h7) :=
  ⟨put11_over _ _ _ _ _ _ _ _ _ _ _ h.val, (put11_rd ..).on h.err (by omega), h.rd.keep h.val hno (by omega) (put11_rd ..), h.kept.trans ((put11_rd wr w.heap.size x.k x.n x.s x.h0 x.h1 x.h2 x.h3 x.h4 x.h5 x.h6 x.h7).below (Nat.le_refl _) h.kept.size)⟩
theorem Tk.on {w wr w' : World} {cs : Array Value} {e : Int} {xs : List UInt8} (h : Tk w cs e xs wr) (hb : Below wr.heap.size wr w') : Tk w cs e xs w' :=
  ⟨block_on h.val hb, block_on h.err hb, h.rd.rd hb, h.kept.trans (hb.mono h.kept.size)⟩
theorem Tk.setErr {w wr : World} {cs : Array Value} {e : Int} {xs : List UInt8} (h : Tk w cs e xs wr) (n : Int) : Tk w cs n xs (wr.setCell ⟨w.heap.size + 1, 0, none⟩ (.int .i64 n)) :=
  ⟨(set_rd _ _ _ _).on h.val (by omega), set_block h.err _, h.rd.keep h.err (by intro o t h; match o, h with | 0, h => simp at h | o + 1, h => simp at h) (by omega) (set_rd ..), h.kept.setCell (by simp) _⟩
theorem Tk.fail {w wr w1 : World} {cs : Array Value} {e : Int} {xs : List UInt8} (h : Tk w cs e xs wr) (hw : Rd (w.heap.size + 2) wr w1) (n : Int) :
    (w1.setCell ⟨w.heap.size + 1, 0, none⟩ (.int .i64 n)).heap[w.heap.size]? = some (.cells cs 25) ∧ (w1.setCell ⟨w.heap.size + 1, 0, none⟩ (.int .i64 n)).heap[w.heap.size + 1]? = some (.cells #[.int .i64 n] 27) ∧ Below w.heap.size w (w1.setCell ⟨w.heap.size + 1, 0, none⟩ (.int .i64 n)) :=
  ⟨(set_rd _ _ _ _).on (hw.on h.val (by omega)) (by omega), set_block (hw.on h.err (by omega)) _, (h.kept.trans (hw.below (by omega) h.kept.size)).setCell (by simp) _⟩
set_option maxRecDepth 100000 in
set_option maxHeartbeats 1000000 in
theorem take_none {v : Value} {xs : List UInt8} {k : Int} {w : World} (hv : BAt w v xs) (hk : 1 ≤ k ∧ k ≤ 4) (ht : takeV k xs = none) :
    Calls Try.prog 10 #[v, .int .i64 k] w fun e w' => e = .returned (.tuple #[V 0 0 ⟨#[]⟩ 0 0 0 0 0 0 0 0, .slice none 0 0, .int .i64 40]) ∧ Below w.heap.size w w' := by
  have HT := hid (Tk.start hv)
  have HK := hid hk
  have HN := hid ht
  clear hk ht
  obtain ⟨p, cap, rfl, -⟩ := hv
  have hmf : ∀ (fn : Fn) (first cap : Array Value) (w : World), (Instr.makeFunc fn first cap).run Try.prog w = .ok (.func fn first cap) w := fun _ _ _ _ => rfl
  go_enter_defers Try.func10, Try.ntmps10
  go_wp2_with (first
    | (go_at_call 33; refine (value_none HT.out.rd HK.out HN.out).mono ?_; rintro e w1 ⟨rfl, hw1⟩))
  have K1 := hw1.on HT.out.err (by omega)
  obtain ⟨h0, h1, h2⟩ := HT.out.fail hw1 40
  refine leaves_cons (f := 31) (args := #[.pointer (some ⟨w.heap.size + 1, 0, none⟩)]) (by simp) (by simp [go_sem]) ?_
  refine (catch_panicking (x := 0) ((block_cell K1 0).trans rfl) (block_frozen K1 0)).mono ?_
  rintro e u' w'' ⟨rfl, rfl, rfl⟩
  generalize World.setCell _ _ _ = W at *
  have k0 := block_cell h0
  have k1 := block_cell h1
  simp [Leaves, settle, results, Try.results10, go_sem, k0, k1, h2]
set_option maxRecDepth 100000 in
set_option maxHeartbeats 1000000 in
theorem take_bad {v : Value} {xs : List UInt8} {k : Int} {w : World} (hv : BAt w v xs) (hk : ¬ (1 ≤ k ∧ k ≤ 4)) :
    Calls Try.prog 10 #[v, .int .i64 k] w fun e w' => e = .returned (.tuple #[V 0 0 ⟨#[]⟩ 0 0 0 0 0 0 0 0, .slice none 0 0, .int .i64 10]) ∧ Below w.heap.size w w' := by
  have HT := hid (Tk.start hv)
  have HK := hid hk
  clear hk
  obtain ⟨p, cap, rfl, -⟩ := hv
  have hmf : ∀ (fn : Fn) (first cap : Array Value) (w : World), (Instr.makeFunc fn first cap).run Try.prog w = .ok (.func fn first cap) w := fun _ _ _ _ => rfl
  go_enter_defers Try.func10, Try.ntmps10
  go_wp2_with (first
    | (go_at_call 33; refine (value_bad HT.out.rd HK.out).mono ?_; rintro e w1 ⟨rfl, hw1⟩))
  have K1 := hw1.on HT.out.err (by omega)
  obtain ⟨h0, h1, h2⟩ := HT.out.fail hw1 10
  refine leaves_cons (f := 31) (args := #[.pointer (some ⟨w.heap.size + 1, 0, none⟩)]) (by simp) (by simp [go_sem]) ?_
  refine (catch_panicking (x := 0) ((block_cell K1 0).trans rfl) (block_frozen K1 0)).mono ?_
  rintro e u' w'' ⟨rfl, rfl, rfl⟩
  generalize World.setCell _ _ _ = W at *
  have k0 := block_cell h0
  have k1 := block_cell h1
  simp [Leaves, settle, results, Try.results10, go_sem, k0, k1, h2]
theorem OwnB.keep {B b : Nat} {w w' : World} {v : Value} {xs : List UInt8} (h : OwnB B w v xs) (hb : b < B) (hw : Rd b w w') : OwnB B w' v xs := by
  refine ⟨h.1, ?_⟩
  rcases h.2 with h0 | ⟨g, cap, cur, hv, hg, hblk, hc⟩
  · exact .inl h0
  · exact .inr ⟨g, cap, cur, hv, hg, hw.on hblk (by omega), hc⟩
theorem take_meet {w W w2 : World} {r : List UInt8} {x : Vl} {v : Value} (hT : Tk w (vcl x) 0 r w2) (ho : OwnB W.drew.heap.size w2 v r) (hl : w.heap.size + 1 < W.heap.size) :
    OwnB (w.heap.size + 2) ((put11 w2 w.heap.size x.k x.n x.s x.h0 x.h1 x.h2 x.h3 x.h4 x.h5 x.h6 x.h7).setCell ⟨w.heap.size + 1, 0, none⟩ (.int .i64 0)) v r ∧ Tk w (vcl x) 0 r ((put11 w2 w.heap.size x.k x.n x.s x.h0 x.h1 x.h2 x.h3 x.h4 x.h5 x.h6 x.h7).setCell ⟨w.heap.size + 1, 0, none⟩ (.int .i64 0)) :=
  ⟨((ho.keep (b := w.heap.size) (by show _ < W.heap.size; omega) (put11_rd ..)).keep (b := w.heap.size + 1) hl (set_rd ..)).le (by show _ ≤ W.heap.size; omega), (Tk.put x hT noB_vals).setErr 0⟩
set_option maxRecDepth 100000 in
set_option maxHeartbeats 1000000 in
theorem take_some {v : Value} {xs r : List UInt8} {k : Int} {x : Vl} {w : World} (hv : BAt w v xs) (ht : takeV k xs = some (x, r)) (hl : r.length ≤ 140737488355328) :
    Calls Try.prog 10 #[v, .int .i64 k] w fun e w' => ∃ v', e = .returned (.tuple #[x.val, v', .int .i64 0]) ∧ OwnB w.heap.size w' v' r ∧ Below w.heap.size w w' := by
  have HT := hid (Tk.start hv)
  have HN := hid ht
  have HL := hid hl
  clear ht hl
  obtain ⟨p, cap, rfl, -⟩ := hv
  have hmf : ∀ (fn : Fn) (first cap : Array Value) (w : World), (Instr.makeFunc fn first cap).run Try.prog w = .ok (.func fn first cap) w := fun _ _ _ _ => rfl
  go_enter_defers Try.func10, Try.ntmps10
  go_wp2_with (first
    | (go_at_call 33; refine (value_some HT.out.rd HN.out).mono ?_; rintro e w1 ⟨rfl, hr1, hw1⟩; have HT1 := hid (HT.out.read hr1 hw1); have k0 := block_cell HT1.out.val; have z0 := block_frozen HT1.out.val; clear hr1 hw1))
  have hT2 := Tk.put x HT1.out noB_vals
  unfold put11 at hT2
  have HT2 := hid hT2
  clear hT2 k0 z0 HT1 HT
  generalize World.setCell _ _ _ = W at *
  have k0 := block_cell HT2.out.val
  have z0 := block_frozen HT2.out.val
  have k1 := block_cell HT2.out.err
  have z1 := block_frozen HT2.out.err
  have l0 := lt_of_block HT2.out.val
  have l1 := lt_of_block HT2.out.err
  have l2 := HT2.out.rd.lt
  obtain ⟨lv, hlv, hbat⟩ := HT2.out.rd
  have HB := hid hbat
  have kr := block_cell hlv
  obtain ⟨p', cap', rfl, -⟩ := hbat
  clear hlv
  go_cut [5] from 13 to 16 (fun s wx => Hid (OwnB (w.heap.size + 2) wx s r) ∧ Hid (Tk w (vcl x) 0 r wx))
  case first =>
    refine no_other ?_
    go_region_with (first | (go_at_call 28; refine (cloneB_any (HB.out.on (Below.refl _ _).drew) HL.out).mono ?_; rintro e w2 ⟨v2, rfl, hown2, hb2⟩; have HO2 := hid hown2; have HT3 := hid (HT2.out.on (show Below W.heap.size W w2 from (Below.refl _ _).drew.trans hb2)); have k0' := block_cell HT3.out.val; have z0' := block_frozen HT3.out.val; have k1' := block_cell HT3.out.err; have z1' := block_frozen HT3.out.err; have hs2 : W.heap.size ≤ w2.heap.size := hb2.size; obtain ⟨p2, c2, rfl⟩ := hown2.form; clear hown2 hb2))
    all_goals
      go_wp2_with fail
      go_meet
      case rel =>
        have hm := take_meet (W := W) HT3.out HO2.out l1
        unfold put11 at hm
        exact hm
  case rest =>
    obtain ⟨HO, HF⟩ := hcut
    clear k0 z0 k1 z1 l0 l1 l2 kr HB HT2
    have ke := block_cell HF.out.err
    have ze := block_frozen HF.out.err
    go_wp2
    refine leaves_cons (f := 31) (args := #[.pointer (some ⟨w.heap.size + 1, 0, none⟩)]) (by simp) (by simp [go_sem]) ?_
    refine (catch_idle (x := 0) ((ke 0).trans rfl) (ze 0)).mono ?_
    rintro e u' w'' ⟨rfl, rfl, rfl⟩
    have hF := HF.out.setErr 0
    have hO := (HO.out.keep (b := w.heap.size + 1) (by omega) (set_rd wc _ 0 (.int .i64 0))).le (B' := w.heap.size) (by omega)
    clear ke ze HO HF
    generalize World.setCell _ _ _ = W3 at *
    have k0 := block_cell hF.val
    have k1 := block_cell hF.err
    have hb := hF.kept
    simp [Leaves, settle, results, Try.results10, go_sem, k0, k1]
    exact ⟨hO, hb⟩
end Go.Proofs.Ytnjeocjachmbkaa
