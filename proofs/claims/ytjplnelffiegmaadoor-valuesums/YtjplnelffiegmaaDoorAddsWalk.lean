/-
  catchmentlaw01.ValueAdds returns true for every two values, and turns nothing older in memory. Condition: the table of the powers of ten of Go's strconv is as it is laid.
-/
import Derived.Test.YtjplnelffiegmaaDoorRefAdd
namespace Go.Proofs.YtjplnelffiegmaaDoor
open Go.RowKit Go.Joins Go.Sort
theorem eqV_self (k n : Int) (s : ByteArray) (a0 a1 a2 a3 a4 a5 a6 a7 : Int) : eqV k n s a0 a1 a2 a3 a4 a5 a6 a7 k n s a0 a1 a2 a3 a4 a5 a6 a7 = true := by simp [eqV, eqH]
theorem radd_int {n n' : Int} {w : World} (r : Int) (hr : wrap64 (n + n') = r) :
    Calls Tryd.prog 19 #[V 1 n ⟨#[]⟩ 0 0 0 0 0 0 0 0, V 1 n' ⟨#[]⟩ 0 0 0 0 0 0 0 0] w fun e w' => e = .returned (.tuple #[V 1 r ⟨#[]⟩ 0 0 0 0 0 0 0 0, .int .i64 0]) ∧ Below w.heap.size w w' := by
  have h : wrap64 (0 + 0) = 0 := by go_arith
  have c := @radd_ok 1 n ⟨#[]⟩ 0 0 0 0 0 0 0 0 n' ⟨#[]⟩ 0 0 0 0 0 0 0 0 w (valid_of_int _) (valid_of_int _) (Or.inl (by decide))
  rw [h, hr] at c
  exact c
theorem add_int_is {n n' : Int} {w : World} (r : Int) (hr : wrap64 (n + n') = r) :
    Calls Tryd.prog 18 #[V 1 n ⟨#[]⟩ 0 0 0 0 0 0 0 0, V 1 n' ⟨#[]⟩ 0 0 0 0 0 0 0 0] w fun e w' => e = .returned (.tuple #[V 1 r ⟨#[]⟩ 0 0 0 0 0 0 0 0, .int .i64 0]) ∧ Below w.heap.size w w' := by
  rw [← hr]; exact add_int (valid_of_int _) (valid_of_int _)
def SumsAre (a0 a1 a2 a3 a4 a5 a6 a7 b0 b1 b2 b3 b4 b5 b6 b7 r0 r1 r2 r3 r4 r5 r6 r7 : Int) : Prop := wrap64 (a0 + b0) = r0 ∧ wrap64 (a1 + b1) = r1 ∧ wrap64 (a2 + b2) = r2 ∧ wrap64 (a3 + b3) = r3 ∧ wrap64 (a4 + b4) = r4 ∧ wrap64 (a5 + b5) = r5 ∧ wrap64 (a6 + b6) = r6 ∧ wrap64 (a7 + b7) = r7
theorem SumsAre.comm {a0 a1 a2 a3 a4 a5 a6 a7 b0 b1 b2 b3 b4 b5 b6 b7 r0 r1 r2 r3 r4 r5 r6 r7 : Int} (h : SumsAre a0 a1 a2 a3 a4 a5 a6 a7 b0 b1 b2 b3 b4 b5 b6 b7 r0 r1 r2 r3 r4 r5 r6 r7) : SumsAre b0 b1 b2 b3 b4 b5 b6 b7 a0 a1 a2 a3 a4 a5 a6 a7 r0 r1 r2 r3 r4 r5 r6 r7 := by
  unfold SumsAre at *
  simp only [Int.add_comm] at *
  exact h
theorem radd_hist {a0 a1 a2 a3 a4 a5 a6 a7 b0 b1 b2 b3 b4 b5 b6 b7 r0 r1 r2 r3 r4 r5 r6 r7 : Int} {w : World} (hr : SumsAre a0 a1 a2 a3 a4 a5 a6 a7 b0 b1 b2 b3 b4 b5 b6 b7 r0 r1 r2 r3 r4 r5 r6 r7) :
    Calls Tryd.prog 19 #[V 4 0 ⟨#[]⟩ a0 a1 a2 a3 a4 a5 a6 a7, V 4 0 ⟨#[]⟩ b0 b1 b2 b3 b4 b5 b6 b7] w fun e w' => e = .returned (.tuple #[V 4 0 ⟨#[]⟩ r0 r1 r2 r3 r4 r5 r6 r7, .int .i64 0]) ∧ Below w.heap.size w w' := by
  have h : wrap64 (0 + 0) = 0 := by go_arith
  have c := @radd_ok 4 0 ⟨#[]⟩ a0 a1 a2 a3 a4 a5 a6 a7 0 ⟨#[]⟩ b0 b1 b2 b3 b4 b5 b6 b7 w (valid_of_hist _ _ _ _ _ _ _ _) (valid_of_hist _ _ _ _ _ _ _ _) (Or.inr ⟨by decide, by decide⟩)
  obtain ⟨rfl, rfl, rfl, rfl, rfl, rfl, rfl, rfl⟩ := hr
  rw [h] at c
  exact c
theorem add_hist_is {a0 a1 a2 a3 a4 a5 a6 a7 b0 b1 b2 b3 b4 b5 b6 b7 r0 r1 r2 r3 r4 r5 r6 r7 : Int} {w : World} (hr : SumsAre a0 a1 a2 a3 a4 a5 a6 a7 b0 b1 b2 b3 b4 b5 b6 b7 r0 r1 r2 r3 r4 r5 r6 r7) :
    Calls Tryd.prog 18 #[V 4 0 ⟨#[]⟩ a0 a1 a2 a3 a4 a5 a6 a7, V 4 0 ⟨#[]⟩ b0 b1 b2 b3 b4 b5 b6 b7] w fun e w' => e = .returned (.tuple #[V 4 0 ⟨#[]⟩ r0 r1 r2 r3 r4 r5 r6 r7, .int .i64 0]) ∧ Below w.heap.size w w' := by
  obtain ⟨rfl, rfl, rfl, rfl, rfl, rfl, rfl, rfl⟩ := hr
  exact add_hist (valid_of_hist _ _ _ _ _ _ _ _) (valid_of_hist _ _ _ _ _ _ _ _)

set_option maxHeartbeats 1000000 in
set_option maxRecDepth 100000 in
theorem valueAdds_bad {k n : Int} {s : ByteArray} {a0 a1 a2 a3 a4 a5 a6 a7 : Int} {k' n' : Int} {s' : ByteArray} {b0 b1 b2 b3 b4 b5 b6 b7 : Int} {w : World} (h : addable k n s a0 a1 a2 a3 a4 a5 a6 a7 k' n' s' b0 b1 b2 b3 b4 b5 b6 b7 = false) (ht : Tab w) :
    Calls Tryd.prog 6 #[V k n s a0 a1 a2 a3 a4 a5 a6 a7, V k' n' s' b0 b1 b2 b3 b4 b5 b6 b7] w fun e w' => e = .returned (.bool true) ∧ Below w.heap.size w w' := by
  have HT := hid ht
  have H1 := hid h
  have H2 := hid (addable_comm h)
  clear ht h
  go_enter Tryd.func6, Tryd.ntmps6
  go_wp2_with fail
  have HB := hid (show Below w.heap.size w ((w.alloc (.cells (cellsOf k n s a0 a1 a2 a3 a4 a5 a6 a7) 24 (0, 0))).alloc (.cells (cellsOf k' n' s' b0 b1 b2 b3 b4 b5 b6 b7) 24 (0, 0))) from by go_grown)
  have K0 : Hid (((w.alloc (.cells (cellsOf k n s a0 a1 a2 a3 a4 a5 a6 a7) 24 (0, 0))).alloc (.cells (cellsOf k' n' s' b0 b1 b2 b3 b4 b5 b6 b7) 24 (0, 0))).heap[w.heap.size]? = some (.cells (cellsOf k n s a0 a1 a2 a3 a4 a5 a6 a7) 24 (0, 0))) := block_on (alloc_block w (.cells (cellsOf k n s a0 a1 a2 a3 a4 a5 a6 a7) 24 (0, 0))) ((Below.refl _ _).alloc (Nat.le_refl _) (.cells (cellsOf k' n' s' b0 b1 b2 b3 b4 b5 b6 b7) 24 (0, 0)))
  have K1 : Hid (((w.alloc (.cells (cellsOf k n s a0 a1 a2 a3 a4 a5 a6 a7) 24 (0, 0))).alloc (.cells (cellsOf k' n' s' b0 b1 b2 b3 b4 b5 b6 b7) 24 (0, 0))).heap[w.heap.size + 1]? = some (.cells (cellsOf k' n' s' b0 b1 b2 b3 b4 b5 b6 b7) 24 (0, 0))) := by have h := alloc_block (w.alloc (.cells (cellsOf k n s a0 a1 a2 a3 a4 a5 a6 a7) 24 (0, 0))) (.cells (cellsOf k' n' s' b0 b1 b2 b3 b4 b5 b6 b7) 24 (0, 0)); simp only [World.size_alloc] at h; exact h
  generalize ((w.alloc (.cells (cellsOf k n s a0 a1 a2 a3 a4 a5 a6 a7) 24 (0, 0))).alloc (.cells (cellsOf k' n' s' b0 b1 b2 b3 b4 b5 b6 b7) 24 (0, 0))) = W0 at *
  have c0 := fun o => block_cell K0.out o
  have l0 := lt_of_block K0.out
  have c1 := fun o => block_cell K1.out o
  have l1 := lt_of_block K1.out
  refine (shown_any (HT.out.on HB.out)).mono ?_
  rintro e w1 ⟨rfl, hb⟩
  clear c0 l0 c1 l1
  replace K0 := hid (block_on K0.out hb)
  replace K1 := hid (block_on K1.out hb)
  replace HB := hid (below_on HB.out hb)
  clear hb
  have c0 := fun o => block_cell K0.out o
  have l0 := lt_of_block K0.out
  have c1 := fun o => block_cell K1.out o
  have l1 := lt_of_block K1.out
  go_wp2_with fail
  refine (add_bad H1.out).mono ?_
  rintro e w2 ⟨rfl, hb⟩
  clear c0 l0 c1 l1
  replace K0 := hid (block_on K0.out hb)
  replace K1 := hid (block_on K1.out hb)
  replace HB := hid (below_on HB.out hb)
  clear hb
  have c0 := fun o => block_cell K0.out o
  have l0 := lt_of_block K0.out
  have c1 := fun o => block_cell K1.out o
  have l1 := lt_of_block K1.out
  go_wp2_with fail
  clear c0 l0 c1 l1
  have K2 := hid (alloc_block w2 (.cells (cellsOf 0 0 ⟨#[]⟩ 0 0 0 0 0 0 0 0) 24 (0, 0)))
  replace K0 := hid (block_on K0.out ((Below.refl _ _).alloc (Nat.le_refl _) (.cells (cellsOf 0 0 ⟨#[]⟩ 0 0 0 0 0 0 0 0) 24 (0, 0))))
  replace K1 := hid (block_on K1.out ((Below.refl _ _).alloc (Nat.le_refl _) (.cells (cellsOf 0 0 ⟨#[]⟩ 0 0 0 0 0 0 0 0) 24 (0, 0))))
  replace HB := hid (below_on HB.out ((Below.refl _ _).alloc (Nat.le_refl _) (.cells (cellsOf 0 0 ⟨#[]⟩ 0 0 0 0 0 0 0 0) 24 (0, 0))))
  generalize (w2.alloc (.cells (cellsOf 0 0 ⟨#[]⟩ 0 0 0 0 0 0 0 0) 24 (0, 0))) = W3 at *
  generalize w2.heap.size = bk2 at *
  have c0 := fun o => block_cell K0.out o
  have l0 := lt_of_block K0.out
  have c1 := fun o => block_cell K1.out o
  have l1 := lt_of_block K1.out
  have c2 := fun o => block_cell K2.out o
  have l2 := lt_of_block K2.out
  refine (radd_bad H1.out).mono ?_
  rintro e w4 ⟨rfl, hb⟩
  clear c0 l0 c1 l1 c2 l2
  replace K0 := hid (block_on K0.out hb)
  replace K1 := hid (block_on K1.out hb)
  replace K2 := hid (block_on K2.out hb)
  replace HB := hid (below_on HB.out hb)
  clear hb
  have c0 := fun o => block_cell K0.out o
  have l0 := lt_of_block K0.out
  have c1 := fun o => block_cell K1.out o
  have l1 := lt_of_block K1.out
  have c2 := fun o => block_cell K2.out o
  have l2 := lt_of_block K2.out
  go_wp2_with fail
  clear c0 l0 c1 l1 c2 l2
  have K3 := hid (alloc_block w4 (.cells (cellsOf 0 0 ⟨#[]⟩ 0 0 0 0 0 0 0 0) 24 (0, 0)))
  replace K0 := hid (block_on K0.out ((Below.refl _ _).alloc (Nat.le_refl _) (.cells (cellsOf 0 0 ⟨#[]⟩ 0 0 0 0 0 0 0 0) 24 (0, 0))))
  replace K1 := hid (block_on K1.out ((Below.refl _ _).alloc (Nat.le_refl _) (.cells (cellsOf 0 0 ⟨#[]⟩ 0 0 0 0 0 0 0 0) 24 (0, 0))))
  replace K2 := hid (block_on K2.out ((Below.refl _ _).alloc (Nat.le_refl _) (.cells (cellsOf 0 0 ⟨#[]⟩ 0 0 0 0 0 0 0 0) 24 (0, 0))))
  replace HB := hid (below_on HB.out ((Below.refl _ _).alloc (Nat.le_refl _) (.cells (cellsOf 0 0 ⟨#[]⟩ 0 0 0 0 0 0 0 0) 24 (0, 0))))
  generalize (w4.alloc (.cells (cellsOf 0 0 ⟨#[]⟩ 0 0 0 0 0 0 0 0) 24 (0, 0))) = W5 at *
  generalize w4.heap.size = bk3 at *
  have c0 := fun o => block_cell K0.out o
  have l0 := lt_of_block K0.out
  have c1 := fun o => block_cell K1.out o
  have l1 := lt_of_block K1.out
  have c2 := fun o => block_cell K2.out o
  have l2 := lt_of_block K2.out
  have c3 := fun o => block_cell K3.out o
  have l3 := lt_of_block K3.out
  refine (add_bad H2.out).mono ?_
  rintro e w6 ⟨rfl, hb⟩
  clear c0 l0 c1 l1 c2 l2 c3 l3
  replace K0 := hid (block_on K0.out hb)
  replace K1 := hid (block_on K1.out hb)
  replace K2 := hid (block_on K2.out hb)
  replace K3 := hid (block_on K3.out hb)
  replace HB := hid (below_on HB.out hb)
  clear hb
  have c0 := fun o => block_cell K0.out o
  have l0 := lt_of_block K0.out
  have c1 := fun o => block_cell K1.out o
  have l1 := lt_of_block K1.out
  have c2 := fun o => block_cell K2.out o
  have l2 := lt_of_block K2.out
  have c3 := fun o => block_cell K3.out o
  have l3 := lt_of_block K3.out
  have e1 := @eql24
  have e2 := @eqV_self
  go_wp2
  go_ret
  exact ⟨rfl, below_on HB.out ((Below.refl _ _).alloc (Nat.le_refl _) _)⟩

set_option maxHeartbeats 1000000 in
set_option maxRecDepth 100000 in
theorem valueAdds_int {n n' : Int} {w : World} (ht : Tab w) :
    Calls Tryd.prog 6 #[V 1 n ⟨#[]⟩ 0 0 0 0 0 0 0 0, V 1 n' ⟨#[]⟩ 0 0 0 0 0 0 0 0] w fun e w' => e = .returned (.bool true) ∧ Below w.heap.size w w' := by
  have HT := hid ht
  obtain ⟨r, hr⟩ : ∃ r, wrap64 (n + n') = r := ⟨_, rfl⟩
  have H1 := hid hr
  have H2 := hid (show wrap64 (n' + n) = r by rw [Int.add_comm]; exact hr)
  clear ht hr
  go_enter Tryd.func6, Tryd.ntmps6
  go_wp2_with fail
  have HB := hid (show Below w.heap.size w ((w.alloc (.cells (cellsOf 1 n ⟨#[]⟩ 0 0 0 0 0 0 0 0) 24 (0, 0))).alloc (.cells (cellsOf 1 n' ⟨#[]⟩ 0 0 0 0 0 0 0 0) 24 (0, 0))) from by go_grown)
  have K0 : Hid (((w.alloc (.cells (cellsOf 1 n ⟨#[]⟩ 0 0 0 0 0 0 0 0) 24 (0, 0))).alloc (.cells (cellsOf 1 n' ⟨#[]⟩ 0 0 0 0 0 0 0 0) 24 (0, 0))).heap[w.heap.size]? = some (.cells (cellsOf 1 n ⟨#[]⟩ 0 0 0 0 0 0 0 0) 24 (0, 0))) := block_on (alloc_block w (.cells (cellsOf 1 n ⟨#[]⟩ 0 0 0 0 0 0 0 0) 24 (0, 0))) ((Below.refl _ _).alloc (Nat.le_refl _) (.cells (cellsOf 1 n' ⟨#[]⟩ 0 0 0 0 0 0 0 0) 24 (0, 0)))
  have K1 : Hid (((w.alloc (.cells (cellsOf 1 n ⟨#[]⟩ 0 0 0 0 0 0 0 0) 24 (0, 0))).alloc (.cells (cellsOf 1 n' ⟨#[]⟩ 0 0 0 0 0 0 0 0) 24 (0, 0))).heap[w.heap.size + 1]? = some (.cells (cellsOf 1 n' ⟨#[]⟩ 0 0 0 0 0 0 0 0) 24 (0, 0))) := by have h := alloc_block (w.alloc (.cells (cellsOf 1 n ⟨#[]⟩ 0 0 0 0 0 0 0 0) 24 (0, 0))) (.cells (cellsOf 1 n' ⟨#[]⟩ 0 0 0 0 0 0 0 0) 24 (0, 0)); simp only [World.size_alloc] at h; exact h
  generalize ((w.alloc (.cells (cellsOf 1 n ⟨#[]⟩ 0 0 0 0 0 0 0 0) 24 (0, 0))).alloc (.cells (cellsOf 1 n' ⟨#[]⟩ 0 0 0 0 0 0 0 0) 24 (0, 0))) = W0 at *
  have c0 := fun o => block_cell K0.out o
  have l0 := lt_of_block K0.out
  have c1 := fun o => block_cell K1.out o
  have l1 := lt_of_block K1.out
  refine (shown_any (HT.out.on HB.out)).mono ?_
  rintro e w1 ⟨rfl, hb⟩
  clear c0 l0 c1 l1
  replace K0 := hid (block_on K0.out hb)
  replace K1 := hid (block_on K1.out hb)
  replace HB := hid (below_on HB.out hb)
  clear hb
  have c0 := fun o => block_cell K0.out o
  have l0 := lt_of_block K0.out
  have c1 := fun o => block_cell K1.out o
  have l1 := lt_of_block K1.out
  go_wp2_with fail
  refine (add_int_is r H1.out).mono ?_
  rintro e w2 ⟨rfl, hb⟩
  clear c0 l0 c1 l1
  replace K0 := hid (block_on K0.out hb)
  replace K1 := hid (block_on K1.out hb)
  replace HB := hid (below_on HB.out hb)
  clear hb
  have c0 := fun o => block_cell K0.out o
  have l0 := lt_of_block K0.out
  have c1 := fun o => block_cell K1.out o
  have l1 := lt_of_block K1.out
  go_wp2_with fail
  clear c0 l0 c1 l1
  have K2 := hid (alloc_block w2 (.cells (cellsOf 1 r ⟨#[]⟩ 0 0 0 0 0 0 0 0) 24 (0, 0)))
  replace K0 := hid (block_on K0.out ((Below.refl _ _).alloc (Nat.le_refl _) (.cells (cellsOf 1 r ⟨#[]⟩ 0 0 0 0 0 0 0 0) 24 (0, 0))))
  replace K1 := hid (block_on K1.out ((Below.refl _ _).alloc (Nat.le_refl _) (.cells (cellsOf 1 r ⟨#[]⟩ 0 0 0 0 0 0 0 0) 24 (0, 0))))
  replace HB := hid (below_on HB.out ((Below.refl _ _).alloc (Nat.le_refl _) (.cells (cellsOf 1 r ⟨#[]⟩ 0 0 0 0 0 0 0 0) 24 (0, 0))))
  generalize (w2.alloc (.cells (cellsOf 1 r ⟨#[]⟩ 0 0 0 0 0 0 0 0) 24 (0, 0))) = W3 at *
  generalize w2.heap.size = bk2 at *
  have c0 := fun o => block_cell K0.out o
  have l0 := lt_of_block K0.out
  have c1 := fun o => block_cell K1.out o
  have l1 := lt_of_block K1.out
  have c2 := fun o => block_cell K2.out o
  have l2 := lt_of_block K2.out
  refine (radd_int r H1.out).mono ?_
  rintro e w4 ⟨rfl, hb⟩
  clear c0 l0 c1 l1 c2 l2
  replace K0 := hid (block_on K0.out hb)
  replace K1 := hid (block_on K1.out hb)
  replace K2 := hid (block_on K2.out hb)
  replace HB := hid (below_on HB.out hb)
  clear hb
  have c0 := fun o => block_cell K0.out o
  have l0 := lt_of_block K0.out
  have c1 := fun o => block_cell K1.out o
  have l1 := lt_of_block K1.out
  have c2 := fun o => block_cell K2.out o
  have l2 := lt_of_block K2.out
  go_wp2_with fail
  clear c0 l0 c1 l1 c2 l2
  have K3 := hid (alloc_block w4 (.cells (cellsOf 1 r ⟨#[]⟩ 0 0 0 0 0 0 0 0) 24 (0, 0)))
  replace K0 := hid (block_on K0.out ((Below.refl _ _).alloc (Nat.le_refl _) (.cells (cellsOf 1 r ⟨#[]⟩ 0 0 0 0 0 0 0 0) 24 (0, 0))))
  replace K1 := hid (block_on K1.out ((Below.refl _ _).alloc (Nat.le_refl _) (.cells (cellsOf 1 r ⟨#[]⟩ 0 0 0 0 0 0 0 0) 24 (0, 0))))
  replace K2 := hid (block_on K2.out ((Below.refl _ _).alloc (Nat.le_refl _) (.cells (cellsOf 1 r ⟨#[]⟩ 0 0 0 0 0 0 0 0) 24 (0, 0))))
  replace HB := hid (below_on HB.out ((Below.refl _ _).alloc (Nat.le_refl _) (.cells (cellsOf 1 r ⟨#[]⟩ 0 0 0 0 0 0 0 0) 24 (0, 0))))
  generalize (w4.alloc (.cells (cellsOf 1 r ⟨#[]⟩ 0 0 0 0 0 0 0 0) 24 (0, 0))) = W5 at *
  generalize w4.heap.size = bk3 at *
  have c0 := fun o => block_cell K0.out o
  have l0 := lt_of_block K0.out
  have c1 := fun o => block_cell K1.out o
  have l1 := lt_of_block K1.out
  have c2 := fun o => block_cell K2.out o
  have l2 := lt_of_block K2.out
  have c3 := fun o => block_cell K3.out o
  have l3 := lt_of_block K3.out
  refine (add_int_is r H2.out).mono ?_
  rintro e w6 ⟨rfl, hb⟩
  clear c0 l0 c1 l1 c2 l2 c3 l3
  replace K0 := hid (block_on K0.out hb)
  replace K1 := hid (block_on K1.out hb)
  replace K2 := hid (block_on K2.out hb)
  replace K3 := hid (block_on K3.out hb)
  replace HB := hid (below_on HB.out hb)
  clear hb
  have c0 := fun o => block_cell K0.out o
  have l0 := lt_of_block K0.out
  have c1 := fun o => block_cell K1.out o
  have l1 := lt_of_block K1.out
  have c2 := fun o => block_cell K2.out o
  have l2 := lt_of_block K2.out
  have c3 := fun o => block_cell K3.out o
  have l3 := lt_of_block K3.out
  have e1 := @eql24
  have e2 := @eqV_self
  go_wp2
  go_ret
  exact ⟨rfl, below_on HB.out ((Below.refl _ _).alloc (Nat.le_refl _) _)⟩

set_option maxHeartbeats 1000000 in
set_option maxRecDepth 100000 in
theorem valueAdds_hist {a0 a1 a2 a3 a4 a5 a6 a7 b0 b1 b2 b3 b4 b5 b6 b7 : Int} {w : World} (ht : Tab w) :
    Calls Tryd.prog 6 #[V 4 0 ⟨#[]⟩ a0 a1 a2 a3 a4 a5 a6 a7, V 4 0 ⟨#[]⟩ b0 b1 b2 b3 b4 b5 b6 b7] w fun e w' => e = .returned (.bool true) ∧ Below w.heap.size w w' := by
  have HT := hid ht
  obtain ⟨r0, r1, r2, r3, r4, r5, r6, r7, hr⟩ : ∃ r0 r1 r2 r3 r4 r5 r6 r7, SumsAre a0 a1 a2 a3 a4 a5 a6 a7 b0 b1 b2 b3 b4 b5 b6 b7 r0 r1 r2 r3 r4 r5 r6 r7 := ⟨_, _, _, _, _, _, _, _, rfl, rfl, rfl, rfl, rfl, rfl, rfl, rfl⟩
  have H1 := hid hr
  have H2 := hid hr.comm
  clear ht hr
  go_enter Tryd.func6, Tryd.ntmps6
  go_wp2_with fail
  have HB := hid (show Below w.heap.size w ((w.alloc (.cells (cellsOf 4 0 ⟨#[]⟩ a0 a1 a2 a3 a4 a5 a6 a7) 24 (0, 0))).alloc (.cells (cellsOf 4 0 ⟨#[]⟩ b0 b1 b2 b3 b4 b5 b6 b7) 24 (0, 0))) from by go_grown)
  have K0 : Hid (((w.alloc (.cells (cellsOf 4 0 ⟨#[]⟩ a0 a1 a2 a3 a4 a5 a6 a7) 24 (0, 0))).alloc (.cells (cellsOf 4 0 ⟨#[]⟩ b0 b1 b2 b3 b4 b5 b6 b7) 24 (0, 0))).heap[w.heap.size]? = some (.cells (cellsOf 4 0 ⟨#[]⟩ a0 a1 a2 a3 a4 a5 a6 a7) 24 (0, 0))) := block_on (alloc_block w (.cells (cellsOf 4 0 ⟨#[]⟩ a0 a1 a2 a3 a4 a5 a6 a7) 24 (0, 0))) ((Below.refl _ _).alloc (Nat.le_refl _) (.cells (cellsOf 4 0 ⟨#[]⟩ b0 b1 b2 b3 b4 b5 b6 b7) 24 (0, 0)))
  have K1 : Hid (((w.alloc (.cells (cellsOf 4 0 ⟨#[]⟩ a0 a1 a2 a3 a4 a5 a6 a7) 24 (0, 0))).alloc (.cells (cellsOf 4 0 ⟨#[]⟩ b0 b1 b2 b3 b4 b5 b6 b7) 24 (0, 0))).heap[w.heap.size + 1]? = some (.cells (cellsOf 4 0 ⟨#[]⟩ b0 b1 b2 b3 b4 b5 b6 b7) 24 (0, 0))) := by have h := alloc_block (w.alloc (.cells (cellsOf 4 0 ⟨#[]⟩ a0 a1 a2 a3 a4 a5 a6 a7) 24 (0, 0))) (.cells (cellsOf 4 0 ⟨#[]⟩ b0 b1 b2 b3 b4 b5 b6 b7) 24 (0, 0)); simp only [World.size_alloc] at h; exact h
  generalize ((w.alloc (.cells (cellsOf 4 0 ⟨#[]⟩ a0 a1 a2 a3 a4 a5 a6 a7) 24 (0, 0))).alloc (.cells (cellsOf 4 0 ⟨#[]⟩ b0 b1 b2 b3 b4 b5 b6 b7) 24 (0, 0))) = W0 at *
  have c0 := fun o => block_cell K0.out o
  have l0 := lt_of_block K0.out
  have c1 := fun o => block_cell K1.out o
  have l1 := lt_of_block K1.out
  refine (shown_any (HT.out.on HB.out)).mono ?_
  rintro e w1 ⟨rfl, hb⟩
  clear c0 l0 c1 l1
  replace K0 := hid (block_on K0.out hb)
  replace K1 := hid (block_on K1.out hb)
  replace HB := hid (below_on HB.out hb)
  clear hb
  have c0 := fun o => block_cell K0.out o
  have l0 := lt_of_block K0.out
  have c1 := fun o => block_cell K1.out o
  have l1 := lt_of_block K1.out
  go_wp2_with fail
  refine (add_hist_is H1.out).mono ?_
  rintro e w2 ⟨rfl, hb⟩
  clear c0 l0 c1 l1
  replace K0 := hid (block_on K0.out hb)
  replace K1 := hid (block_on K1.out hb)
  replace HB := hid (below_on HB.out hb)
  clear hb
  have c0 := fun o => block_cell K0.out o
  have l0 := lt_of_block K0.out
  have c1 := fun o => block_cell K1.out o
  have l1 := lt_of_block K1.out
  go_wp2_with fail
  clear c0 l0 c1 l1
  have K2 := hid (alloc_block w2 (.cells (cellsOf 4 0 ⟨#[]⟩ r0 r1 r2 r3 r4 r5 r6 r7) 24 (0, 0)))
  replace K0 := hid (block_on K0.out ((Below.refl _ _).alloc (Nat.le_refl _) (.cells (cellsOf 4 0 ⟨#[]⟩ r0 r1 r2 r3 r4 r5 r6 r7) 24 (0, 0))))
  replace K1 := hid (block_on K1.out ((Below.refl _ _).alloc (Nat.le_refl _) (.cells (cellsOf 4 0 ⟨#[]⟩ r0 r1 r2 r3 r4 r5 r6 r7) 24 (0, 0))))
  replace HB := hid (below_on HB.out ((Below.refl _ _).alloc (Nat.le_refl _) (.cells (cellsOf 4 0 ⟨#[]⟩ r0 r1 r2 r3 r4 r5 r6 r7) 24 (0, 0))))
  generalize (w2.alloc (.cells (cellsOf 4 0 ⟨#[]⟩ r0 r1 r2 r3 r4 r5 r6 r7) 24 (0, 0))) = W3 at *
  generalize w2.heap.size = bk2 at *
  have c0 := fun o => block_cell K0.out o
  have l0 := lt_of_block K0.out
  have c1 := fun o => block_cell K1.out o
  have l1 := lt_of_block K1.out
  have c2 := fun o => block_cell K2.out o
  have l2 := lt_of_block K2.out
  refine (radd_hist H1.out).mono ?_
  rintro e w4 ⟨rfl, hb⟩
  clear c0 l0 c1 l1 c2 l2
  replace K0 := hid (block_on K0.out hb)
  replace K1 := hid (block_on K1.out hb)
  replace K2 := hid (block_on K2.out hb)
  replace HB := hid (below_on HB.out hb)
  clear hb
  have c0 := fun o => block_cell K0.out o
  have l0 := lt_of_block K0.out
  have c1 := fun o => block_cell K1.out o
  have l1 := lt_of_block K1.out
  have c2 := fun o => block_cell K2.out o
  have l2 := lt_of_block K2.out
  go_wp2_with fail
  clear c0 l0 c1 l1 c2 l2
  have K3 := hid (alloc_block w4 (.cells (cellsOf 4 0 ⟨#[]⟩ r0 r1 r2 r3 r4 r5 r6 r7) 24 (0, 0)))
  replace K0 := hid (block_on K0.out ((Below.refl _ _).alloc (Nat.le_refl _) (.cells (cellsOf 4 0 ⟨#[]⟩ r0 r1 r2 r3 r4 r5 r6 r7) 24 (0, 0))))
  replace K1 := hid (block_on K1.out ((Below.refl _ _).alloc (Nat.le_refl _) (.cells (cellsOf 4 0 ⟨#[]⟩ r0 r1 r2 r3 r4 r5 r6 r7) 24 (0, 0))))
  replace K2 := hid (block_on K2.out ((Below.refl _ _).alloc (Nat.le_refl _) (.cells (cellsOf 4 0 ⟨#[]⟩ r0 r1 r2 r3 r4 r5 r6 r7) 24 (0, 0))))
  replace HB := hid (below_on HB.out ((Below.refl _ _).alloc (Nat.le_refl _) (.cells (cellsOf 4 0 ⟨#[]⟩ r0 r1 r2 r3 r4 r5 r6 r7) 24 (0, 0))))
  generalize (w4.alloc (.cells (cellsOf 4 0 ⟨#[]⟩ r0 r1 r2 r3 r4 r5 r6 r7) 24 (0, 0))) = W5 at *
  generalize w4.heap.size = bk3 at *
  have c0 := fun o => block_cell K0.out o
  have l0 := lt_of_block K0.out
  have c1 := fun o => block_cell K1.out o
  have l1 := lt_of_block K1.out
  have c2 := fun o => block_cell K2.out o
  have l2 := lt_of_block K2.out
  have c3 := fun o => block_cell K3.out o
  have l3 := lt_of_block K3.out
  refine (add_hist_is H2.out).mono ?_
  rintro e w6 ⟨rfl, hb⟩
  clear c0 l0 c1 l1 c2 l2 c3 l3
  replace K0 := hid (block_on K0.out hb)
  replace K1 := hid (block_on K1.out hb)
  replace K2 := hid (block_on K2.out hb)
  replace K3 := hid (block_on K3.out hb)
  replace HB := hid (below_on HB.out hb)
  clear hb
  have c0 := fun o => block_cell K0.out o
  have l0 := lt_of_block K0.out
  have c1 := fun o => block_cell K1.out o
  have l1 := lt_of_block K1.out
  have c2 := fun o => block_cell K2.out o
  have l2 := lt_of_block K2.out
  have c3 := fun o => block_cell K3.out o
  have l3 := lt_of_block K3.out
  have e1 := @eql24
  have e2 := @eqV_self
  go_wp2
  go_ret
  exact ⟨rfl, below_on HB.out ((Below.refl _ _).alloc (Nat.le_refl _) _)⟩

theorem valueAdds_any {k n : Int} {s : ByteArray} {a0 a1 a2 a3 a4 a5 a6 a7 : Int} {k' n' : Int} {s' : ByteArray} {b0 b1 b2 b3 b4 b5 b6 b7 : Int} {w : World} (ht : Tab w) :
    Calls Tryd.prog 6 #[V k n s a0 a1 a2 a3 a4 a5 a6 a7, V k' n' s' b0 b1 b2 b3 b4 b5 b6 b7] w fun e w' => e = .returned (.bool true) ∧ Below w.heap.size w w' := by
  cases h : addable k n s a0 a1 a2 a3 a4 a5 a6 a7 k' n' s' b0 b1 b2 b3 b4 b5 b6 b7
  · exact valueAdds_bad h ht
  · simp only [addable, Bool.and_eq_true, decide_eq_true_eq] at h
    obtain ⟨rfl, hv, hv', h14⟩ := h
    rcases h14 with rfl | rfl
    · simp [validB, zeroH, eqH] at hv hv'
      obtain ⟨rfl, rfl, rfl, rfl, rfl, rfl, rfl, rfl, rfl⟩ := hv
      obtain ⟨rfl, rfl, rfl, rfl, rfl, rfl, rfl, rfl, rfl⟩ := hv'
      exact valueAdds_int ht
    · simp [validB] at hv hv'
      obtain ⟨rfl, rfl⟩ := hv
      obtain ⟨rfl, rfl⟩ := hv'
      exact valueAdds_hist ht
end Go.Proofs.YtjplnelffiegmaaDoor
