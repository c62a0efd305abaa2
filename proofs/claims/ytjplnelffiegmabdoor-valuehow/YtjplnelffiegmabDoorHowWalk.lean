/-
  catchmentlaw01.ValueHow returns true for every two values, and turns nothing older in memory. Condition: the table of the powers of ten of Go's strconv is as it is laid.
-/
import Derived.Test.YtjplnelffiegmabDoorMore
import Derived.Test.YtjplnelffiegmabDoorOrder
namespace Go.Proofs.YtjplnelffiegmabDoor
open Go.RowKit Go.Joins Go.Sort

set_option maxHeartbeats 1000000 in
set_option maxRecDepth 100000 in
theorem valueHow_kinds {k n : Int} {s : ByteArray} {a0 a1 a2 a3 a4 a5 a6 a7 : Int} {k' n' : Int} {s' : ByteArray} {b0 b1 b2 b3 b4 b5 b6 b7 : Int} {w : World} (hk : ¬ k = k') (ht : Tab w) :
    Calls Tryd.prog 4 #[V k n s a0 a1 a2 a3 a4 a5 a6 a7, V k' n' s' b0 b1 b2 b3 b4 b5 b6 b7] w fun e w' => e = .returned (.bool true) ∧ Below w.heap.size w w' := by
  have HT := hid ht
  have HK := hid hk
  have hk2 : (k != k') = true := by simpa using hk
  clear ht hk
  go_enter Tryd.func4, Tryd.ntmps4
  go_wp2_with fail
  have HB := hid (show Below w.heap.size w ((w.alloc (.cells (cellsOf k n s a0 a1 a2 a3 a4 a5 a6 a7) 25 (0, 0))).alloc (.cells (cellsOf k' n' s' b0 b1 b2 b3 b4 b5 b6 b7) 25 (0, 0))) from by go_grown)
  have K0 : Hid (((w.alloc (.cells (cellsOf k n s a0 a1 a2 a3 a4 a5 a6 a7) 25 (0, 0))).alloc (.cells (cellsOf k' n' s' b0 b1 b2 b3 b4 b5 b6 b7) 25 (0, 0))).heap[w.heap.size]? = some (.cells (cellsOf k n s a0 a1 a2 a3 a4 a5 a6 a7) 25 (0, 0))) := block_on (alloc_block w (.cells (cellsOf k n s a0 a1 a2 a3 a4 a5 a6 a7) 25 (0, 0))) ((Below.refl _ _).alloc (Nat.le_refl _) (.cells (cellsOf k' n' s' b0 b1 b2 b3 b4 b5 b6 b7) 25 (0, 0)))
  have K1 : Hid (((w.alloc (.cells (cellsOf k n s a0 a1 a2 a3 a4 a5 a6 a7) 25 (0, 0))).alloc (.cells (cellsOf k' n' s' b0 b1 b2 b3 b4 b5 b6 b7) 25 (0, 0))).heap[w.heap.size + 1]? = some (.cells (cellsOf k' n' s' b0 b1 b2 b3 b4 b5 b6 b7) 25 (0, 0))) := by have h := alloc_block (w.alloc (.cells (cellsOf k n s a0 a1 a2 a3 a4 a5 a6 a7) 25 (0, 0))) (.cells (cellsOf k' n' s' b0 b1 b2 b3 b4 b5 b6 b7) 25 (0, 0)); simp only [World.size_alloc] at h; exact h
  generalize ((w.alloc (.cells (cellsOf k n s a0 a1 a2 a3 a4 a5 a6 a7) 25 (0, 0))).alloc (.cells (cellsOf k' n' s' b0 b1 b2 b3 b4 b5 b6 b7) 25 (0, 0))) = W0 at *
  have c0 := fun o => block_cell K0.out o
  have l0 := lt_of_block K0.out
  have c1 := fun o => block_cell K1.out o
  have l1 := lt_of_block K1.out
  refine (shown_any (HT.out.on HB.out)).mono ?_
  rintro e w1 ⟨rfl, hb⟩
  clear c0 l0 c1 l1
  replace K0 := hid (block_on K0.out hb)
  replace K1 := hid (block_on K1.out hb)
  replace HB := hid (below_on HB.out hb)
  clear hb
  have c0 := fun o => block_cell K0.out o
  have l0 := lt_of_block K0.out
  have c1 := fun o => block_cell K1.out o
  have l1 := lt_of_block K1.out
  go_wp2_with fail
  refine (holds_is false (by simp [holdsB, HK.out])).mono ?_
  rintro e w2 ⟨rfl, hb⟩
  clear c0 l0 c1 l1
  replace K0 := hid (block_on K0.out hb)
  replace K1 := hid (block_on K1.out hb)
  replace HB := hid (below_on HB.out hb)
  clear hb
  have c0 := fun o => block_cell K0.out o
  have l0 := lt_of_block K0.out
  have c1 := fun o => block_cell K1.out o
  have l1 := lt_of_block K1.out
  go_wp2_with fail
  refine (holds_is false (by simp [holdsB, HK.out])).mono ?_
  rintro e w3 ⟨rfl, hb⟩
  clear c0 l0 c1 l1
  replace K0 := hid (block_on K0.out hb)
  replace K1 := hid (block_on K1.out hb)
  replace HB := hid (below_on HB.out hb)
  clear hb
  have c0 := fun o => block_cell K0.out o
  have l0 := lt_of_block K0.out
  have c1 := fun o => block_cell K1.out o
  have l1 := lt_of_block K1.out
  go_wp2_with fail
  refine (holds_is false (by simp [holdsB, HK.out])).mono ?_
  rintro e w4 ⟨rfl, hb⟩
  clear c0 l0 c1 l1
  replace K0 := hid (block_on K0.out hb)
  replace K1 := hid (block_on K1.out hb)
  replace HB := hid (below_on HB.out hb)
  clear hb
  have c0 := fun o => block_cell K0.out o
  have l0 := lt_of_block K0.out
  have c1 := fun o => block_cell K1.out o
  have l1 := lt_of_block K1.out
  go_wp2_with fail
  refine (holds_is false (by simp [holdsB, HK.out])).mono ?_
  rintro e w5 ⟨rfl, hb⟩
  clear c0 l0 c1 l1
  replace K0 := hid (block_on K0.out hb)
  replace K1 := hid (block_on K1.out hb)
  replace HB := hid (below_on HB.out hb)
  clear hb
  have c0 := fun o => block_cell K0.out o
  have l0 := lt_of_block K0.out
  have c1 := fun o => block_cell K1.out o
  have l1 := lt_of_block K1.out
  go_wp2_with fail
  refine (holds_is false (by simp [holdsB, HK.out])).mono ?_
  rintro e w6 ⟨rfl, hb⟩
  clear c0 l0 c1 l1
  replace K0 := hid (block_on K0.out hb)
  replace K1 := hid (block_on K1.out hb)
  replace HB := hid (below_on HB.out hb)
  clear hb
  have c0 := fun o => block_cell K0.out o
  have l0 := lt_of_block K0.out
  have c1 := fun o => block_cell K1.out o
  have l1 := lt_of_block K1.out
  go_wp2_with fail
  refine (holds_is false (by simp [holdsB, HK.out])).mono ?_
  rintro e w7 ⟨rfl, hb⟩
  clear c0 l0 c1 l1
  replace K0 := hid (block_on K0.out hb)
  replace K1 := hid (block_on K1.out hb)
  replace HB := hid (below_on HB.out hb)
  clear hb
  have c0 := fun o => block_cell K0.out o
  have l0 := lt_of_block K0.out
  have c1 := fun o => block_cell K1.out o
  have l1 := lt_of_block K1.out
  go_wp2_with fail
  go_ret
  exact ⟨rfl, HB.out⟩
set_option maxHeartbeats 1000000 in
set_option maxRecDepth 100000 in
theorem valueHow_less {k n : Int} {s : ByteArray} {a0 a1 a2 a3 a4 a5 a6 a7 : Int} {n' : Int} {s' : ByteArray} {b0 b1 b2 b3 b4 b5 b6 b7 : Int} {w : World} (hX : cmpV k n s a0 a1 a2 a3 a4 a5 a6 a7 k n' s' b0 b1 b2 b3 b4 b5 b6 b7 = (-1)) (ht : Tab w) :
    Calls Tryd.prog 4 #[V k n s a0 a1 a2 a3 a4 a5 a6 a7, V k n' s' b0 b1 b2 b3 b4 b5 b6 b7] w fun e w' => e = .returned (.bool true) ∧ Below w.heap.size w w' := by
  have HT := hid ht
  have HX := hid hX
  have HY := hid (show cmpV k n' s' b0 b1 b2 b3 b4 b5 b6 b7 k n s a0 a1 a2 a3 a4 a5 a6 a7 = 1 by have h := neg_cmpV k n s a0 a1 a2 a3 a4 a5 a6 a7 k n' s' b0 b1 b2 b3 b4 b5 b6 b7; rw [hX] at h; omega)
  clear ht hX
  go_enter Tryd.func4, Tryd.ntmps4
  go_wp2_with fail
  have HB := hid (show Below w.heap.size w ((w.alloc (.cells (cellsOf k n s a0 a1 a2 a3 a4 a5 a6 a7) 25 (0, 0))).alloc (.cells (cellsOf k n' s' b0 b1 b2 b3 b4 b5 b6 b7) 25 (0, 0))) from by go_grown)
  have K0 : Hid (((w.alloc (.cells (cellsOf k n s a0 a1 a2 a3 a4 a5 a6 a7) 25 (0, 0))).alloc (.cells (cellsOf k n' s' b0 b1 b2 b3 b4 b5 b6 b7) 25 (0, 0))).heap[w.heap.size]? = some (.cells (cellsOf k n s a0 a1 a2 a3 a4 a5 a6 a7) 25 (0, 0))) := block_on (alloc_block w (.cells (cellsOf k n s a0 a1 a2 a3 a4 a5 a6 a7) 25 (0, 0))) ((Below.refl _ _).alloc (Nat.le_refl _) (.cells (cellsOf k n' s' b0 b1 b2 b3 b4 b5 b6 b7) 25 (0, 0)))
  have K1 : Hid (((w.alloc (.cells (cellsOf k n s a0 a1 a2 a3 a4 a5 a6 a7) 25 (0, 0))).alloc (.cells (cellsOf k n' s' b0 b1 b2 b3 b4 b5 b6 b7) 25 (0, 0))).heap[w.heap.size + 1]? = some (.cells (cellsOf k n' s' b0 b1 b2 b3 b4 b5 b6 b7) 25 (0, 0))) := by have h := alloc_block (w.alloc (.cells (cellsOf k n s a0 a1 a2 a3 a4 a5 a6 a7) 25 (0, 0))) (.cells (cellsOf k n' s' b0 b1 b2 b3 b4 b5 b6 b7) 25 (0, 0)); simp only [World.size_alloc] at h; exact h
  generalize ((w.alloc (.cells (cellsOf k n s a0 a1 a2 a3 a4 a5 a6 a7) 25 (0, 0))).alloc (.cells (cellsOf k n' s' b0 b1 b2 b3 b4 b5 b6 b7) 25 (0, 0))) = W0 at *
  have c0 := fun o => block_cell K0.out o
  have l0 := lt_of_block K0.out
  have c1 := fun o => block_cell K1.out o
  have l1 := lt_of_block K1.out
  refine (shown_any (HT.out.on HB.out)).mono ?_
  rintro e w1 ⟨rfl, hb⟩
  clear c0 l0 c1 l1
  replace K0 := hid (block_on K0.out hb)
  replace K1 := hid (block_on K1.out hb)
  replace HB := hid (below_on HB.out hb)
  clear hb
  have c0 := fun o => block_cell K0.out o
  have l0 := lt_of_block K0.out
  have c1 := fun o => block_cell K1.out o
  have l1 := lt_of_block K1.out
  go_wp2_with fail
  refine (holds_is false (by rw [HX.out]; simp [holdsB])).mono ?_
  rintro e w2 ⟨rfl, hb⟩
  clear c0 l0 c1 l1
  replace K0 := hid (block_on K0.out hb)
  replace K1 := hid (block_on K1.out hb)
  replace HB := hid (below_on HB.out hb)
  clear hb
  have c0 := fun o => block_cell K0.out o
  have l0 := lt_of_block K0.out
  have c1 := fun o => block_cell K1.out o
  have l1 := lt_of_block K1.out
  go_wp2_with fail
  refine (holds_is true (by rw [HX.out]; simp [holdsB])).mono ?_
  rintro e w3 ⟨rfl, hb⟩
  clear c0 l0 c1 l1
  replace K0 := hid (block_on K0.out hb)
  replace K1 := hid (block_on K1.out hb)
  replace HB := hid (below_on HB.out hb)
  clear hb
  have c0 := fun o => block_cell K0.out o
  have l0 := lt_of_block K0.out
  have c1 := fun o => block_cell K1.out o
  have l1 := lt_of_block K1.out
  go_wp2_with fail
  refine (holds_is false (by rw [HX.out]; simp [holdsB])).mono ?_
  rintro e w4 ⟨rfl, hb⟩
  clear c0 l0 c1 l1
  replace K0 := hid (block_on K0.out hb)
  replace K1 := hid (block_on K1.out hb)
  replace HB := hid (below_on HB.out hb)
  clear hb
  have c0 := fun o => block_cell K0.out o
  have l0 := lt_of_block K0.out
  have c1 := fun o => block_cell K1.out o
  have l1 := lt_of_block K1.out
  go_wp2_with fail
  refine (holds_is true (by rw [HX.out]; simp [holdsB])).mono ?_
  rintro e w5 ⟨rfl, hb⟩
  clear c0 l0 c1 l1
  replace K0 := hid (block_on K0.out hb)
  replace K1 := hid (block_on K1.out hb)
  replace HB := hid (below_on HB.out hb)
  clear hb
  have c0 := fun o => block_cell K0.out o
  have l0 := lt_of_block K0.out
  have c1 := fun o => block_cell K1.out o
  have l1 := lt_of_block K1.out
  go_wp2_with fail
  refine (holds_is true (by rw [HX.out]; simp [holdsB])).mono ?_
  rintro e w6 ⟨rfl, hb⟩
  clear c0 l0 c1 l1
  replace K0 := hid (block_on K0.out hb)
  replace K1 := hid (block_on K1.out hb)
  replace HB := hid (below_on HB.out hb)
  clear hb
  have c0 := fun o => block_cell K0.out o
  have l0 := lt_of_block K0.out
  have c1 := fun o => block_cell K1.out o
  have l1 := lt_of_block K1.out
  go_wp2_with fail
  refine (holds_is false (by rw [HX.out]; simp [holdsB])).mono ?_
  rintro e w7 ⟨rfl, hb⟩
  clear c0 l0 c1 l1
  replace K0 := hid (block_on K0.out hb)
  replace K1 := hid (block_on K1.out hb)
  replace HB := hid (below_on HB.out hb)
  clear hb
  have c0 := fun o => block_cell K0.out o
  have l0 := lt_of_block K0.out
  have c1 := fun o => block_cell K1.out o
  have l1 := lt_of_block K1.out
  go_wp2_with fail
  refine (holds_is false (by rw [HY.out]; simp [holdsB])).mono ?_
  rintro e w8 ⟨rfl, hb⟩
  clear c0 l0 c1 l1
  replace K0 := hid (block_on K0.out hb)
  replace K1 := hid (block_on K1.out hb)
  replace HB := hid (below_on HB.out hb)
  clear hb
  have c0 := fun o => block_cell K0.out o
  have l0 := lt_of_block K0.out
  have c1 := fun o => block_cell K1.out o
  have l1 := lt_of_block K1.out
  go_wp2_with fail
  go_ret
  exact ⟨rfl, HB.out⟩
set_option maxHeartbeats 1000000 in
set_option maxRecDepth 100000 in
theorem valueHow_same {k n : Int} {s : ByteArray} {a0 a1 a2 a3 a4 a5 a6 a7 : Int} {n' : Int} {s' : ByteArray} {b0 b1 b2 b3 b4 b5 b6 b7 : Int} {w : World} (hX : cmpV k n s a0 a1 a2 a3 a4 a5 a6 a7 k n' s' b0 b1 b2 b3 b4 b5 b6 b7 = 0) (ht : Tab w) :
    Calls Tryd.prog 4 #[V k n s a0 a1 a2 a3 a4 a5 a6 a7, V k n' s' b0 b1 b2 b3 b4 b5 b6 b7] w fun e w' => e = .returned (.bool true) ∧ Below w.heap.size w w' := by
  have HT := hid ht
  have HX := hid hX
  have HY := hid (show cmpV k n' s' b0 b1 b2 b3 b4 b5 b6 b7 k n s a0 a1 a2 a3 a4 a5 a6 a7 = 0 by have h := neg_cmpV k n s a0 a1 a2 a3 a4 a5 a6 a7 k n' s' b0 b1 b2 b3 b4 b5 b6 b7; rw [hX] at h; omega)
  clear ht hX
  go_enter Tryd.func4, Tryd.ntmps4
  go_wp2_with fail
  have HB := hid (show Below w.heap.size w ((w.alloc (.cells (cellsOf k n s a0 a1 a2 a3 a4 a5 a6 a7) 25 (0, 0))).alloc (.cells (cellsOf k n' s' b0 b1 b2 b3 b4 b5 b6 b7) 25 (0, 0))) from by go_grown)
  have K0 : Hid (((w.alloc (.cells (cellsOf k n s a0 a1 a2 a3 a4 a5 a6 a7) 25 (0, 0))).alloc (.cells (cellsOf k n' s' b0 b1 b2 b3 b4 b5 b6 b7) 25 (0, 0))).heap[w.heap.size]? = some (.cells (cellsOf k n s a0 a1 a2 a3 a4 a5 a6 a7) 25 (0, 0))) := block_on (alloc_block w (.cells (cellsOf k n s a0 a1 a2 a3 a4 a5 a6 a7) 25 (0, 0))) ((Below.refl _ _).alloc (Nat.le_refl _) (.cells (cellsOf k n' s' b0 b1 b2 b3 b4 b5 b6 b7) 25 (0, 0)))
  have K1 : Hid (((w.alloc (.cells (cellsOf k n s a0 a1 a2 a3 a4 a5 a6 a7) 25 (0, 0))).alloc (.cells (cellsOf k n' s' b0 b1 b2 b3 b4 b5 b6 b7) 25 (0, 0))).heap[w.heap.size + 1]? = some (.cells (cellsOf k n' s' b0 b1 b2 b3 b4 b5 b6 b7) 25 (0, 0))) := by have h := alloc_block (w.alloc (.cells (cellsOf k n s a0 a1 a2 a3 a4 a5 a6 a7) 25 (0, 0))) (.cells (cellsOf k n' s' b0 b1 b2 b3 b4 b5 b6 b7) 25 (0, 0)); simp only [World.size_alloc] at h; exact h
  generalize ((w.alloc (.cells (cellsOf k n s a0 a1 a2 a3 a4 a5 a6 a7) 25 (0, 0))).alloc (.cells (cellsOf k n' s' b0 b1 b2 b3 b4 b5 b6 b7) 25 (0, 0))) = W0 at *
  have c0 := fun o => block_cell K0.out o
  have l0 := lt_of_block K0.out
  have c1 := fun o => block_cell K1.out o
  have l1 := lt_of_block K1.out
  refine (shown_any (HT.out.on HB.out)).mono ?_
  rintro e w1 ⟨rfl, hb⟩
  clear c0 l0 c1 l1
  replace K0 := hid (block_on K0.out hb)
  replace K1 := hid (block_on K1.out hb)
  replace HB := hid (below_on HB.out hb)
  clear hb
  have c0 := fun o => block_cell K0.out o
  have l0 := lt_of_block K0.out
  have c1 := fun o => block_cell K1.out o
  have l1 := lt_of_block K1.out
  go_wp2_with fail
  refine (holds_is true (by rw [HX.out]; simp [holdsB])).mono ?_
  rintro e w2 ⟨rfl, hb⟩
  clear c0 l0 c1 l1
  replace K0 := hid (block_on K0.out hb)
  replace K1 := hid (block_on K1.out hb)
  replace HB := hid (below_on HB.out hb)
  clear hb
  have c0 := fun o => block_cell K0.out o
  have l0 := lt_of_block K0.out
  have c1 := fun o => block_cell K1.out o
  have l1 := lt_of_block K1.out
  go_wp2_with fail
  refine (holds_is false (by rw [HX.out]; simp [holdsB])).mono ?_
  rintro e w3 ⟨rfl, hb⟩
  clear c0 l0 c1 l1
  replace K0 := hid (block_on K0.out hb)
  replace K1 := hid (block_on K1.out hb)
  replace HB := hid (below_on HB.out hb)
  clear hb
  have c0 := fun o => block_cell K0.out o
  have l0 := lt_of_block K0.out
  have c1 := fun o => block_cell K1.out o
  have l1 := lt_of_block K1.out
  go_wp2_with fail
  refine (holds_is false (by rw [HX.out]; simp [holdsB])).mono ?_
  rintro e w4 ⟨rfl, hb⟩
  clear c0 l0 c1 l1
  replace K0 := hid (block_on K0.out hb)
  replace K1 := hid (block_on K1.out hb)
  replace HB := hid (below_on HB.out hb)
  clear hb
  have c0 := fun o => block_cell K0.out o
  have l0 := lt_of_block K0.out
  have c1 := fun o => block_cell K1.out o
  have l1 := lt_of_block K1.out
  go_wp2_with fail
  refine (holds_is false (by rw [HX.out]; simp [holdsB])).mono ?_
  rintro e w5 ⟨rfl, hb⟩
  clear c0 l0 c1 l1
  replace K0 := hid (block_on K0.out hb)
  replace K1 := hid (block_on K1.out hb)
  replace HB := hid (below_on HB.out hb)
  clear hb
  have c0 := fun o => block_cell K0.out o
  have l0 := lt_of_block K0.out
  have c1 := fun o => block_cell K1.out o
  have l1 := lt_of_block K1.out
  go_wp2_with fail
  refine (holds_is true (by rw [HX.out]; simp [holdsB])).mono ?_
  rintro e w6 ⟨rfl, hb⟩
  clear c0 l0 c1 l1
  replace K0 := hid (block_on K0.out hb)
  replace K1 := hid (block_on K1.out hb)
  replace HB := hid (below_on HB.out hb)
  clear hb
  have c0 := fun o => block_cell K0.out o
  have l0 := lt_of_block K0.out
  have c1 := fun o => block_cell K1.out o
  have l1 := lt_of_block K1.out
  go_wp2_with fail
  refine (holds_is true (by rw [HX.out]; simp [holdsB])).mono ?_
  rintro e w7 ⟨rfl, hb⟩
  clear c0 l0 c1 l1
  replace K0 := hid (block_on K0.out hb)
  replace K1 := hid (block_on K1.out hb)
  replace HB := hid (below_on HB.out hb)
  clear hb
  have c0 := fun o => block_cell K0.out o
  have l0 := lt_of_block K0.out
  have c1 := fun o => block_cell K1.out o
  have l1 := lt_of_block K1.out
  go_wp2_with fail
  refine (holds_is false (by rw [HY.out]; simp [holdsB])).mono ?_
  rintro e w8 ⟨rfl, hb⟩
  clear c0 l0 c1 l1
  replace K0 := hid (block_on K0.out hb)
  replace K1 := hid (block_on K1.out hb)
  replace HB := hid (below_on HB.out hb)
  clear hb
  have c0 := fun o => block_cell K0.out o
  have l0 := lt_of_block K0.out
  have c1 := fun o => block_cell K1.out o
  have l1 := lt_of_block K1.out
  go_wp2_with fail
  go_ret
  exact ⟨rfl, HB.out⟩
set_option maxHeartbeats 1000000 in
set_option maxRecDepth 100000 in
theorem valueHow_more {k n : Int} {s : ByteArray} {a0 a1 a2 a3 a4 a5 a6 a7 : Int} {n' : Int} {s' : ByteArray} {b0 b1 b2 b3 b4 b5 b6 b7 : Int} {w : World} (hX : cmpV k n s a0 a1 a2 a3 a4 a5 a6 a7 k n' s' b0 b1 b2 b3 b4 b5 b6 b7 = 1) (ht : Tab w) :
    Calls Tryd.prog 4 #[V k n s a0 a1 a2 a3 a4 a5 a6 a7, V k n' s' b0 b1 b2 b3 b4 b5 b6 b7] w fun e w' => e = .returned (.bool true) ∧ Below w.heap.size w w' := by
  have HT := hid ht
  have HX := hid hX
  have HY := hid (show cmpV k n' s' b0 b1 b2 b3 b4 b5 b6 b7 k n s a0 a1 a2 a3 a4 a5 a6 a7 = (-1) by have h := neg_cmpV k n s a0 a1 a2 a3 a4 a5 a6 a7 k n' s' b0 b1 b2 b3 b4 b5 b6 b7; rw [hX] at h; omega)
  clear ht hX
  go_enter Tryd.func4, Tryd.ntmps4
  go_wp2_with fail
  have HB := hid (show Below w.heap.size w ((w.alloc (.cells (cellsOf k n s a0 a1 a2 a3 a4 a5 a6 a7) 25 (0, 0))).alloc (.cells (cellsOf k n' s' b0 b1 b2 b3 b4 b5 b6 b7) 25 (0, 0))) from by go_grown)
  have K0 : Hid (((w.alloc (.cells (cellsOf k n s a0 a1 a2 a3 a4 a5 a6 a7) 25 (0, 0))).alloc (.cells (cellsOf k n' s' b0 b1 b2 b3 b4 b5 b6 b7) 25 (0, 0))).heap[w.heap.size]? = some (.cells (cellsOf k n s a0 a1 a2 a3 a4 a5 a6 a7) 25 (0, 0))) := block_on (alloc_block w (.cells (cellsOf k n s a0 a1 a2 a3 a4 a5 a6 a7) 25 (0, 0))) ((Below.refl _ _).alloc (Nat.le_refl _) (.cells (cellsOf k n' s' b0 b1 b2 b3 b4 b5 b6 b7) 25 (0, 0)))
  have K1 : Hid (((w.alloc (.cells (cellsOf k n s a0 a1 a2 a3 a4 a5 a6 a7) 25 (0, 0))).alloc (.cells (cellsOf k n' s' b0 b1 b2 b3 b4 b5 b6 b7) 25 (0, 0))).heap[w.heap.size + 1]? = some (.cells (cellsOf k n' s' b0 b1 b2 b3 b4 b5 b6 b7) 25 (0, 0))) := by have h := alloc_block (w.alloc (.cells (cellsOf k n s a0 a1 a2 a3 a4 a5 a6 a7) 25 (0, 0))) (.cells (cellsOf k n' s' b0 b1 b2 b3 b4 b5 b6 b7) 25 (0, 0)); simp only [World.size_alloc] at h; exact h
  generalize ((w.alloc (.cells (cellsOf k n s a0 a1 a2 a3 a4 a5 a6 a7) 25 (0, 0))).alloc (.cells (cellsOf k n' s' b0 b1 b2 b3 b4 b5 b6 b7) 25 (0, 0))) = W0 at *
  have c0 := fun o => block_cell K0.out o
  have l0 := lt_of_block K0.out
  have c1 := fun o => block_cell K1.out o
  have l1 := lt_of_block K1.out
  refine (shown_any (HT.out.on HB.out)).mono ?_
  rintro e w1 ⟨rfl, hb⟩
  clear c0 l0 c1 l1
  replace K0 := hid (block_on K0.out hb)
  replace K1 := hid (block_on K1.out hb)
  replace HB := hid (below_on HB.out hb)
  clear hb
  have c0 := fun o => block_cell K0.out o
  have l0 := lt_of_block K0.out
  have c1 := fun o => block_cell K1.out o
  have l1 := lt_of_block K1.out
  go_wp2_with fail
  refine (holds_is false (by rw [HX.out]; simp [holdsB])).mono ?_
  rintro e w2 ⟨rfl, hb⟩
  clear c0 l0 c1 l1
  replace K0 := hid (block_on K0.out hb)
  replace K1 := hid (block_on K1.out hb)
  replace HB := hid (below_on HB.out hb)
  clear hb
  have c0 := fun o => block_cell K0.out o
  have l0 := lt_of_block K0.out
  have c1 := fun o => block_cell K1.out o
  have l1 := lt_of_block K1.out
  go_wp2_with fail
  refine (holds_is false (by rw [HX.out]; simp [holdsB])).mono ?_
  rintro e w3 ⟨rfl, hb⟩
  clear c0 l0 c1 l1
  replace K0 := hid (block_on K0.out hb)
  replace K1 := hid (block_on K1.out hb)
  replace HB := hid (below_on HB.out hb)
  clear hb
  have c0 := fun o => block_cell K0.out o
  have l0 := lt_of_block K0.out
  have c1 := fun o => block_cell K1.out o
  have l1 := lt_of_block K1.out
  go_wp2_with fail
  refine (holds_is true (by rw [HX.out]; simp [holdsB])).mono ?_
  rintro e w4 ⟨rfl, hb⟩
  clear c0 l0 c1 l1
  replace K0 := hid (block_on K0.out hb)
  replace K1 := hid (block_on K1.out hb)
  replace HB := hid (below_on HB.out hb)
  clear hb
  have c0 := fun o => block_cell K0.out o
  have l0 := lt_of_block K0.out
  have c1 := fun o => block_cell K1.out o
  have l1 := lt_of_block K1.out
  go_wp2_with fail
  refine (holds_is true (by rw [HX.out]; simp [holdsB])).mono ?_
  rintro e w5 ⟨rfl, hb⟩
  clear c0 l0 c1 l1
  replace K0 := hid (block_on K0.out hb)
  replace K1 := hid (block_on K1.out hb)
  replace HB := hid (below_on HB.out hb)
  clear hb
  have c0 := fun o => block_cell K0.out o
  have l0 := lt_of_block K0.out
  have c1 := fun o => block_cell K1.out o
  have l1 := lt_of_block K1.out
  go_wp2_with fail
  refine (holds_is false (by rw [HX.out]; simp [holdsB])).mono ?_
  rintro e w6 ⟨rfl, hb⟩
  clear c0 l0 c1 l1
  replace K0 := hid (block_on K0.out hb)
  replace K1 := hid (block_on K1.out hb)
  replace HB := hid (below_on HB.out hb)
  clear hb
  have c0 := fun o => block_cell K0.out o
  have l0 := lt_of_block K0.out
  have c1 := fun o => block_cell K1.out o
  have l1 := lt_of_block K1.out
  go_wp2_with fail
  refine (holds_is true (by rw [HX.out]; simp [holdsB])).mono ?_
  rintro e w7 ⟨rfl, hb⟩
  clear c0 l0 c1 l1
  replace K0 := hid (block_on K0.out hb)
  replace K1 := hid (block_on K1.out hb)
  replace HB := hid (below_on HB.out hb)
  clear hb
  have c0 := fun o => block_cell K0.out o
  have l0 := lt_of_block K0.out
  have c1 := fun o => block_cell K1.out o
  have l1 := lt_of_block K1.out
  go_wp2_with fail
  refine (holds_is true (by rw [HY.out]; simp [holdsB])).mono ?_
  rintro e w8 ⟨rfl, hb⟩
  clear c0 l0 c1 l1
  replace K0 := hid (block_on K0.out hb)
  replace K1 := hid (block_on K1.out hb)
  replace HB := hid (below_on HB.out hb)
  clear hb
  have c0 := fun o => block_cell K0.out o
  have l0 := lt_of_block K0.out
  have c1 := fun o => block_cell K1.out o
  have l1 := lt_of_block K1.out
  go_wp2_with fail
  go_ret
  exact ⟨rfl, HB.out⟩
theorem valueHow_any {k n : Int} {s : ByteArray} {a0 a1 a2 a3 a4 a5 a6 a7 : Int} {k' n' : Int} {s' : ByteArray} {b0 b1 b2 b3 b4 b5 b6 b7 : Int} {w : World} (ht : Tab w) :
    Calls Tryd.prog 4 #[V k n s a0 a1 a2 a3 a4 a5 a6 a7, V k' n' s' b0 b1 b2 b3 b4 b5 b6 b7] w fun e w' => e = .returned (.bool true) ∧ Below w.heap.size w w' := by
  by_cases hk : k = k'
  · subst hk
    rcases (tri_cmpV k n s a0 a1 a2 a3 a4 a5 a6 a7 k n' s' b0 b1 b2 b3 b4 b5 b6 b7 k n s a0 a1 a2 a3 a4 a5 a6 a7).1 with h | h | h
    · exact valueHow_less h ht
    · exact valueHow_same h ht
    · exact valueHow_more h ht
  · exact valueHow_kinds hk ht
end Go.Proofs.YtjplnelffiegmabDoor
