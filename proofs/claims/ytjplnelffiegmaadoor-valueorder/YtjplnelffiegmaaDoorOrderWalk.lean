/-
  catchmentlaw01.ValueOrder returns true for every two values and every way of comparing, and turns nothing older in memory. Condition: the table of the powers of ten of Go's strconv is as it is laid.
-/
import Derived.Test.YtjplnelffiegmaaDoorRef
import Derived.Test.YtjplnelffiegmaaDoorOrder
namespace Go.Proofs.YtjplnelffiegmaaDoor
open Go.RowKit Go.Joins Go.Sort

set_option maxHeartbeats 1000000 in
set_option maxRecDepth 100000 in
theorem valueOrder_any {how : Int} {k n : Int} {s : ByteArray} {a0 a1 a2 a3 a4 a5 a6 a7 : Int} {k' n' : Int} {s' : ByteArray} {b0 b1 b2 b3 b4 b5 b6 b7 : Int} {w : World} (hs : s.size ≤ maxLen) (hs' : s'.size ≤ maxLen) (ht : Tab w) :
    Calls Tryd.prog 4 #[V k n s a0 a1 a2 a3 a4 a5 a6 a7, V k' n' s' b0 b1 b2 b3 b4 b5 b6 b7, .int .i64 how] w fun e w' => e = .returned (.bool true) ∧ Below w.heap.size w w' := by
  have HT := hid ht
  clear ht
  obtain ⟨X, hX⟩ : ∃ X, cmpV k n s a0 a1 a2 a3 a4 a5 a6 a7 k' n' s' b0 b1 b2 b3 b4 b5 b6 b7 = X := ⟨_, rfl⟩
  have hY := neg_cmpV k n s a0 a1 a2 a3 a4 a5 a6 a7 k' n' s' b0 b1 b2 b3 b4 b5 b6 b7
  have h3 := tri_cmpV k n s a0 a1 a2 a3 a4 a5 a6 a7 k' n' s' b0 b1 b2 b3 b4 b5 b6 b7 k n s a0 a1 a2 a3 a4 a5 a6 a7
  rw [hX] at hY h3
  have hb1 : -1 ≤ X := by have := h3.1; omega
  have hb2 : X ≤ 1 := by have := h3.1; omega
  clear h3
  go_enter Tryd.func4, Tryd.ntmps4
  go_wp2_with fail
  have HB := hid (show Below w.heap.size w ((w.alloc (.cells (cellsOf k n s a0 a1 a2 a3 a4 a5 a6 a7) 24 (0, 0))).alloc (.cells (cellsOf k' n' s' b0 b1 b2 b3 b4 b5 b6 b7) 24 (0, 0))) from by go_grown)
  have K0 : Hid (((w.alloc (.cells (cellsOf k n s a0 a1 a2 a3 a4 a5 a6 a7) 24 (0, 0))).alloc (.cells (cellsOf k' n' s' b0 b1 b2 b3 b4 b5 b6 b7) 24 (0, 0))).heap[w.heap.size]? = some (.cells (cellsOf k n s a0 a1 a2 a3 a4 a5 a6 a7) 24 (0, 0))) := block_on (alloc_block w (.cells (cellsOf k n s a0 a1 a2 a3 a4 a5 a6 a7) 24 (0, 0))) ((Below.refl _ _).alloc (Nat.le_refl _) (.cells (cellsOf k' n' s' b0 b1 b2 b3 b4 b5 b6 b7) 24 (0, 0)))
  have K1 : Hid (((w.alloc (.cells (cellsOf k n s a0 a1 a2 a3 a4 a5 a6 a7) 24 (0, 0))).alloc (.cells (cellsOf k' n' s' b0 b1 b2 b3 b4 b5 b6 b7) 24 (0, 0))).heap[w.heap.size + 1]? = some (.cells (cellsOf k' n' s' b0 b1 b2 b3 b4 b5 b6 b7) 24 (0, 0))) := by have h := alloc_block (w.alloc (.cells (cellsOf k n s a0 a1 a2 a3 a4 a5 a6 a7) 24 (0, 0))) (.cells (cellsOf k' n' s' b0 b1 b2 b3 b4 b5 b6 b7) 24 (0, 0)); simp only [World.size_alloc] at h; exact h
  generalize ((w.alloc (.cells (cellsOf k n s a0 a1 a2 a3 a4 a5 a6 a7) 24 (0, 0))).alloc (.cells (cellsOf k' n' s' b0 b1 b2 b3 b4 b5 b6 b7) 24 (0, 0))) = W0 at *
  have c0 := fun o => block_cell K0.out o
  have l0 := lt_of_block K0.out
  have c1 := fun o => block_cell K1.out o
  have l1 := lt_of_block K1.out
  refine (shown_any (HT.out.on HB.out)).mono ?_
  rintro e w1 ⟨rfl, hb⟩
  clear c0 l0 c1 l1
  replace K0 := hid (block_on K0.out hb)
  replace K1 := hid (block_on K1.out hb)
  replace HB := hid (below_on HB.out hb)
  clear hb
  have c0 := fun o => block_cell K0.out o
  have l0 := lt_of_block K0.out
  have c1 := fun o => block_cell K1.out o
  have l1 := lt_of_block K1.out
  go_wp2_with fail
  clear c0 l0 c1 l1
  have q0 : ∀ d os o, (grow (redrawn w1 d) os).cell? ⟨w.heap.size, o, none⟩ = (cellsOf k n s a0 a1 a2 a3 a4 a5 a6 a7)[o]? := fun d os o => block_cell (block_on K0.out (below_regrown w1 d os)) o
  have q1 : ∀ d os o, (grow (redrawn w1 d) os).cell? ⟨w.heap.size + 1, o, none⟩ = (cellsOf k' n' s' b0 b1 b2 b3 b4 b5 b6 b7)[o]? := fun d os o => block_cell (block_on K1.out (below_regrown w1 d os)) o
  have HT' : ∀ d os, Hid (Tab (grow (redrawn w1 d) os)) := fun d os => HT.out.on (below_on HB.out (below_regrown w1 d os))
  refine wp_region_quiet_below (by kernel_rfl) (by kernel_rfl) ?_
  repeat (go_big_quiet_step (first
    | (go_at_call 14; exact Calls.regrown_of compare_any)
    | (go_at_call 15; first | exact Calls.regrown_of (rcompare_any hs hs') | exact Calls.regrown_of (rcompare_any hs' hs))
    | (go_at_call 16; exact Calls.regrown_of holds_any)
    | (go_at_call 17; exact Calls.regrown_of (rholds_any hs hs'))))
  refine wpQuiet_nil ?_
  intro _ hw'
  obtain ⟨⟨dq, osq⟩, hw''⟩ := hw'
  subst hw''
  go_wp2
  go_ret
  exact ⟨rfl, below_on HB.out (below_regrown w1 dq osq)⟩
end Go.Proofs.YtjplnelffiegmaaDoor
