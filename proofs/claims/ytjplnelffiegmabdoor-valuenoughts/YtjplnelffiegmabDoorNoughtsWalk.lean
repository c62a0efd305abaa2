/-
  catchmentlaw01.ValueNoughts returns true for every number and every eight buckets, and turns nothing older in memory. Condition: the table of the powers of ten of Go's strconv is as it is laid.
-/
import Derived.Test.YtjplnelffiegmabDoorMore
namespace Go.Proofs.YtjplnelffiegmabDoor
open Go.RowKit Go.Joins Go.Sort

set_option maxHeartbeats 1000000 in
set_option maxRecDepth 100000 in
theorem valueNoughts_any {n : Int} {h0 h1 h2 h3 h4 h5 h6 h7 : Int} {w : World} (hn : Ok64 n) (hh : Ok64 h0 ∧ Ok64 h1 ∧ Ok64 h2 ∧ Ok64 h3 ∧ Ok64 h4 ∧ Ok64 h5 ∧ Ok64 h6 ∧ Ok64 h7) (ht : Tab w) :
    Calls Tryd.prog 6 #[.int .i64 n, H8 h0 h1 h2 h3 h4 h5 h6 h7] w fun e w' => e = .returned (.bool true) ∧ Below w.heap.size w w' := by
  have HT := hid ht
  have H1 := hid (wrap64_ok hn)
  have H2 := hid (wrap64_opp n)
  have HS := hid (show wrap64 (h0 + 0) = h0 ∧ wrap64 (h1 + 0) = h1 ∧ wrap64 (h2 + 0) = h2 ∧ wrap64 (h3 + 0) = h3 ∧ wrap64 (h4 + 0) = h4 ∧ wrap64 (h5 + 0) = h5 ∧ wrap64 (h6 + 0) = h6 ∧ wrap64 (h7 + 0) = h7 from ⟨wrap64_ok hh.1, wrap64_ok hh.2.1, wrap64_ok hh.2.2.1, wrap64_ok hh.2.2.2.1, wrap64_ok hh.2.2.2.2.1, wrap64_ok hh.2.2.2.2.2.1, wrap64_ok hh.2.2.2.2.2.2.1, wrap64_ok hh.2.2.2.2.2.2.2⟩)
  clear ht hn hh
  go_enter Tryd.func6, Tryd.ntmps6
  go_wp2_with fail
  have HB := hid (show Below w.heap.size w (w.alloc (.cells (cells8 h0 h1 h2 h3 h4 h5 h6 h7) 23 (0, 0))) from by go_grown)
  have K0 : Hid ((w.alloc (.cells (cells8 h0 h1 h2 h3 h4 h5 h6 h7) 23 (0, 0))).heap[w.heap.size]? = some (.cells (cells8 h0 h1 h2 h3 h4 h5 h6 h7) 23 (0, 0))) := alloc_block w (.cells (cells8 h0 h1 h2 h3 h4 h5 h6 h7) 23 (0, 0))
  generalize (w.alloc (.cells (cells8 h0 h1 h2 h3 h4 h5 h6 h7) 23 (0, 0))) = W0 at *
  have c0 := fun o => block_cell K0.out o
  have l0 := lt_of_block K0.out
  refine (shown_any (HT.out.on HB.out)).mono ?_
  rintro e w1 ⟨rfl, hb⟩
  clear c0 l0
  replace K0 := hid (block_on K0.out hb)
  replace HB := hid (below_on HB.out hb)
  clear hb
  have c0 := fun o => block_cell K0.out o
  have l0 := lt_of_block K0.out
  go_wp2_with fail
  refine (ofInt_any).mono ?_
  rintro e w2 ⟨rfl, hb⟩
  clear c0 l0
  replace K0 := hid (block_on K0.out hb)
  replace HB := hid (below_on HB.out hb)
  clear hb
  have c0 := fun o => block_cell K0.out o
  have l0 := lt_of_block K0.out
  go_wp2_with fail
  refine (ofInt_any).mono ?_
  rintro e w3 ⟨rfl, hb⟩
  clear c0 l0
  replace K0 := hid (block_on K0.out hb)
  replace HB := hid (below_on HB.out hb)
  clear hb
  have c0 := fun o => block_cell K0.out o
  have l0 := lt_of_block K0.out
  go_wp2_with fail
  refine (add_int_is n H1.out (valid_of_int _) (valid_of_int _)).mono ?_
  rintro e w4 ⟨rfl, hb⟩
  clear c0 l0
  replace K0 := hid (block_on K0.out hb)
  replace HB := hid (below_on HB.out hb)
  clear hb
  have c0 := fun o => block_cell K0.out o
  have l0 := lt_of_block K0.out
  go_wp2_with fail
  clear c0 l0
  have K1 := hid (alloc_block w4 (.cells (cellsOf 1 n ⟨#[]⟩ 0 0 0 0 0 0 0 0) 25 (0, 0)))
  replace K0 := hid (block_on K0.out ((Below.refl _ _).alloc (Nat.le_refl _) (.cells (cellsOf 1 n ⟨#[]⟩ 0 0 0 0 0 0 0 0) 25 (0, 0))))
  replace HB := hid (below_on HB.out ((Below.refl _ _).alloc (Nat.le_refl _) (.cells (cellsOf 1 n ⟨#[]⟩ 0 0 0 0 0 0 0 0) 25 (0, 0))))
  generalize (w4.alloc (.cells (cellsOf 1 n ⟨#[]⟩ 0 0 0 0 0 0 0 0) 25 (0, 0))) = W5 at *
  generalize w4.heap.size = bk1 at *
  have c0 := fun o => block_cell K0.out o
  have l0 := lt_of_block K0.out
  have c1 := fun o => block_cell K1.out o
  have l1 := lt_of_block K1.out
  refine (ofInt_any).mono ?_
  rintro e w6 ⟨rfl, hb⟩
  clear c0 l0 c1 l1
  replace K0 := hid (block_on K0.out hb)
  replace K1 := hid (block_on K1.out hb)
  replace HB := hid (below_on HB.out hb)
  clear hb
  have c0 := fun o => block_cell K0.out o
  have l0 := lt_of_block K0.out
  have c1 := fun o => block_cell K1.out o
  have l1 := lt_of_block K1.out
  go_wp2_with fail
  refine (ofInt_any).mono ?_
  rintro e w7 ⟨rfl, hb⟩
  clear c0 l0 c1 l1
  replace K0 := hid (block_on K0.out hb)
  replace K1 := hid (block_on K1.out hb)
  replace HB := hid (below_on HB.out hb)
  clear hb
  have c0 := fun o => block_cell K0.out o
  have l0 := lt_of_block K0.out
  have c1 := fun o => block_cell K1.out o
  have l1 := lt_of_block K1.out
  go_wp2_with fail
  refine (add_int_is 0 H2.out (valid_of_int _) (valid_of_int _)).mono ?_
  rintro e w8 ⟨rfl, hb⟩
  clear c0 l0 c1 l1
  replace K0 := hid (block_on K0.out hb)
  replace K1 := hid (block_on K1.out hb)
  replace HB := hid (below_on HB.out hb)
  clear hb
  have c0 := fun o => block_cell K0.out o
  have l0 := lt_of_block K0.out
  have c1 := fun o => block_cell K1.out o
  have l1 := lt_of_block K1.out
  go_wp2_with fail
  clear c0 l0 c1 l1
  have K2 := hid (block_on (alloc_block w8 (.cells (cellsOf 1 0 ⟨#[]⟩ 0 0 0 0 0 0 0 0) 25 (0, 0))) ((Below.refl _ _).alloc (Nat.le_refl _) (.cells (cellsOf 4 0 ⟨#[]⟩ h0 h1 h2 h3 h4 h5 h6 h7) 25 (0, 0))))
  have K3 := hid (alloc_block2 w8 (.cells (cellsOf 1 0 ⟨#[]⟩ 0 0 0 0 0 0 0 0) 25 (0, 0)) (.cells (cellsOf 4 0 ⟨#[]⟩ h0 h1 h2 h3 h4 h5 h6 h7) 25 (0, 0)))
  replace K0 := hid (block_on (block_on K0.out ((Below.refl _ _).alloc (Nat.le_refl _) (.cells (cellsOf 1 0 ⟨#[]⟩ 0 0 0 0 0 0 0 0) 25 (0, 0)))) ((Below.refl _ _).alloc (Nat.le_refl _) (.cells (cellsOf 4 0 ⟨#[]⟩ h0 h1 h2 h3 h4 h5 h6 h7) 25 (0, 0))))
  replace K1 := hid (block_on (block_on K1.out ((Below.refl _ _).alloc (Nat.le_refl _) (.cells (cellsOf 1 0 ⟨#[]⟩ 0 0 0 0 0 0 0 0) 25 (0, 0)))) ((Below.refl _ _).alloc (Nat.le_refl _) (.cells (cellsOf 4 0 ⟨#[]⟩ h0 h1 h2 h3 h4 h5 h6 h7) 25 (0, 0))))
  replace HB := hid (below_on (below_on HB.out ((Below.refl _ _).alloc (Nat.le_refl _) (.cells (cellsOf 1 0 ⟨#[]⟩ 0 0 0 0 0 0 0 0) 25 (0, 0)))) ((Below.refl _ _).alloc (Nat.le_refl _) (.cells (cellsOf 4 0 ⟨#[]⟩ h0 h1 h2 h3 h4 h5 h6 h7) 25 (0, 0))))
  generalize ((w8.alloc (.cells (cellsOf 1 0 ⟨#[]⟩ 0 0 0 0 0 0 0 0) 25 (0, 0))).alloc (.cells (cellsOf 4 0 ⟨#[]⟩ h0 h1 h2 h3 h4 h5 h6 h7) 25 (0, 0))) = W9 at *
  generalize w8.heap.size = bk2 at *
  have c0 := fun o => block_cell K0.out o
  have l0 := lt_of_block K0.out
  have c1 := fun o => block_cell K1.out o
  have l1 := lt_of_block K1.out
  have c2 := fun o => block_cell K2.out o
  have l2 := lt_of_block K2.out
  have c3 := fun o => block_cell K3.out o
  have l3 := lt_of_block K3.out
  refine (add_hist_is h0 h1 h2 h3 h4 h5 h6 h7 HS.out (valid_of_hist h0 h1 h2 h3 h4 h5 h6 h7) (valid_of_hist 0 0 0 0 0 0 0 0)).mono ?_
  rintro e w10 ⟨rfl, hb⟩
  clear c0 l0 c1 l1 c2 l2 c3 l3
  replace K0 := hid (block_on K0.out hb)
  replace K1 := hid (block_on K1.out hb)
  replace K2 := hid (block_on K2.out hb)
  replace K3 := hid (block_on K3.out hb)
  replace HB := hid (below_on HB.out hb)
  clear hb
  have c0 := fun o => block_cell K0.out o
  have l0 := lt_of_block K0.out
  have c1 := fun o => block_cell K1.out o
  have l1 := lt_of_block K1.out
  have c2 := fun o => block_cell K2.out o
  have l2 := lt_of_block K2.out
  have c3 := fun o => block_cell K3.out o
  have l3 := lt_of_block K3.out
  go_wp2_with fail
  clear c0 l0 c1 l1 c2 l2 c3 l3
  have K4 := hid (alloc_block w10 (.cells (cellsOf 4 0 ⟨#[]⟩ h0 h1 h2 h3 h4 h5 h6 h7) 25 (0, 0)))
  replace K0 := hid (block_on K0.out ((Below.refl _ _).alloc (Nat.le_refl _) (.cells (cellsOf 4 0 ⟨#[]⟩ h0 h1 h2 h3 h4 h5 h6 h7) 25 (0, 0))))
  replace K1 := hid (block_on K1.out ((Below.refl _ _).alloc (Nat.le_refl _) (.cells (cellsOf 4 0 ⟨#[]⟩ h0 h1 h2 h3 h4 h5 h6 h7) 25 (0, 0))))
  replace K2 := hid (block_on K2.out ((Below.refl _ _).alloc (Nat.le_refl _) (.cells (cellsOf 4 0 ⟨#[]⟩ h0 h1 h2 h3 h4 h5 h6 h7) 25 (0, 0))))
  replace K3 := hid (block_on K3.out ((Below.refl _ _).alloc (Nat.le_refl _) (.cells (cellsOf 4 0 ⟨#[]⟩ h0 h1 h2 h3 h4 h5 h6 h7) 25 (0, 0))))
  replace HB := hid (below_on HB.out ((Below.refl _ _).alloc (Nat.le_refl _) (.cells (cellsOf 4 0 ⟨#[]⟩ h0 h1 h2 h3 h4 h5 h6 h7) 25 (0, 0))))
  generalize (w10.alloc (.cells (cellsOf 4 0 ⟨#[]⟩ h0 h1 h2 h3 h4 h5 h6 h7) 25 (0, 0))) = W11 at *
  generalize w10.heap.size = bk4 at *
  have c0 := fun o => block_cell K0.out o
  have l0 := lt_of_block K0.out
  have c1 := fun o => block_cell K1.out o
  have l1 := lt_of_block K1.out
  have c2 := fun o => block_cell K2.out o
  have l2 := lt_of_block K2.out
  have c3 := fun o => block_cell K3.out o
  have l3 := lt_of_block K3.out
  have c4 := fun o => block_cell K4.out o
  have l4 := lt_of_block K4.out
  clear c0 l0 c1 l1 c2 l2 c3 l3 c4 l4
  have q0 : ∀ d os o, (grow (redrawn W11 d) os).cell? ⟨w.heap.size, o, none⟩ = (cells8 h0 h1 h2 h3 h4 h5 h6 h7)[o]? := fun d os o => block_cell (block_on K0.out (below_regrown W11 d os)) o
  have q1 : ∀ d os o, (grow (redrawn W11 d) os).cell? ⟨bk1, o, none⟩ = (cellsOf 1 n ⟨#[]⟩ 0 0 0 0 0 0 0 0)[o]? := fun d os o => block_cell (block_on K1.out (below_regrown W11 d os)) o
  have q2 : ∀ d os o, (grow (redrawn W11 d) os).cell? ⟨bk2, o, none⟩ = (cellsOf 1 0 ⟨#[]⟩ 0 0 0 0 0 0 0 0)[o]? := fun d os o => block_cell (block_on K2.out (below_regrown W11 d os)) o
  have q3 : ∀ d os o, (grow (redrawn W11 d) os).cell? ⟨bk2 + 1, o, none⟩ = (cellsOf 4 0 ⟨#[]⟩ h0 h1 h2 h3 h4 h5 h6 h7)[o]? := fun d os o => block_cell (block_on K3.out (below_regrown W11 d os)) o
  have q4 : ∀ d os o, (grow (redrawn W11 d) os).cell? ⟨bk4, o, none⟩ = (cellsOf 4 0 ⟨#[]⟩ h0 h1 h2 h3 h4 h5 h6 h7)[o]? := fun d os o => block_cell (block_on K4.out (below_regrown W11 d os)) o
  have HT' : ∀ d os, Hid (Tab (grow (redrawn W11 d) os)) := fun d os => HT.out.on (below_on HB.out (below_regrown W11 d os))
  have e1 := @eql24
  have e2 := eqV_self
  refine wp_region_quiet_below (by kernel_rfl) (by kernel_rfl) ?_
  repeat (go_big_quiet_step (first
    | (go_at_call 8; exact Calls.regrown_of ofInt_any)))
  refine wpQuiet_nil ?_
  intro _ hw'
  obtain ⟨⟨dq, osq⟩, hw''⟩ := hw'
  subst hw''
  go_wp2
  go_ret
  exact ⟨rfl, below_on HB.out (below_regrown W11 dq osq)⟩
end Go.Proofs.YtjplnelffiegmabDoor
