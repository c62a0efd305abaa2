/-
  catchmentlaw01.ValueMakes returns true for every number, text and truth, and turns nothing older in memory. Condition: the table of the powers of ten of Go's strconv is as it is laid.
-/
import Derived.Test.YtjplnelffiegmabDoorMore
namespace Go.Proofs.YtjplnelffiegmabDoor
open Go.RowKit Go.Joins Go.Sort
set_option maxHeartbeats 400000 in
theorem rofInt_any {n : Int} {w : World} :
    Calls Tryd.prog 11 #[.int .i64 n] w fun e w' => e = .returned (V 1 n ⟨#[]⟩ 0 0 0 0 0 0 0 0) ∧ Below w.heap.size w w' := by
  go_enter Tryd.func11, Tryd.ntmps11
  go_wp2
  exact bodyPost_ret (v := V 1 n ⟨#[]⟩ 0 0 0 0 0 0 0 0) (by simp [results, Tryd.results11, go_sem]) rfl ⟨rfl, (Below.refl _ _).alloc (Nat.le_refl _) _⟩
set_option maxHeartbeats 400000 in
theorem rofStr_any {s : ByteArray} {w : World} :
    Calls Tryd.prog 12 #[.string s] w fun e w' => e = .returned (V 2 0 (cut64 s) 0 0 0 0 0 0 0 0) ∧ Below w.heap.size w w' := by
  by_cases h : 64 < (s.size : Int)
  · have hm : min (s.size : Int) 64 = 64 := by omega
    go_enter Tryd.func12, Tryd.ntmps12
    go_wp2
    exact bodyPost_ret (v := V 2 0 (cut64 s) 0 0 0 0 0 0 0 0) (by simp [results, Tryd.results12, go_sem, cut64]) rfl ⟨rfl, (Below.refl _ _).alloc (Nat.le_refl _) _⟩
  · have h' : (s.size : Int) ≤ 64 := by omega
    rw [cut64_short (by omega)]
    have hm : min (s.size : Int) 64 = (s.size : Int) := by omega
    go_enter Tryd.func12, Tryd.ntmps12
    go_wp2
    exact bodyPost_ret (v := V 2 0 s 0 0 0 0 0 0 0 0) (by simp [results, Tryd.results12, go_sem]) rfl ⟨rfl, (Below.refl _ _).alloc (Nat.le_refl _) _⟩
set_option maxHeartbeats 400000 in
theorem rofBool_any {b : Bool} {w : World} :
    Calls Tryd.prog 13 #[.bool b] w fun e w' => e = .returned (V 3 (b2i b) ⟨#[]⟩ 0 0 0 0 0 0 0 0) ∧ Below w.heap.size w w' := by
  cases b
  · go_enter Tryd.func13, Tryd.ntmps13
    go_wp2
    exact bodyPost_ret (v := V 3 0 ⟨#[]⟩ 0 0 0 0 0 0 0 0) (by simp [results, Tryd.results13, go_sem]) rfl ⟨rfl, (Below.refl _ _).alloc (Nat.le_refl _) _⟩
  · go_enter Tryd.func13, Tryd.ntmps13
    go_wp2
    exact bodyPost_ret (v := V 3 1 ⟨#[]⟩ 0 0 0 0 0 0 0 0) (by simp [results, Tryd.results13, go_sem]) rfl ⟨rfl, (Below.refl _ _).alloc (Nat.le_refl _) _⟩
theorem valid_of_str (s : ByteArray) : validB 2 0 (cut64 s) 0 0 0 0 0 0 0 0 = true := by
  have h : (cut64 s).size ≤ 64 := by unfold cut64; rw [ByteArray.size_extract]; omega
  simp [validB, zeroH, eqH, h]
theorem valid_of_bool (b : Bool) : validB 3 (b2i b) ⟨#[]⟩ 0 0 0 0 0 0 0 0 = true := by cases b <;> simp [validB, zeroH, eqH, b2i, noText]

set_option maxHeartbeats 1000000 in
set_option maxRecDepth 100000 in
theorem valueMakes_any {n : Int} {s : ByteArray} {b : Bool} {w : World} (ht : Tab w) :
    Calls Tryd.prog 3 #[.int .i64 n, .string s, .bool b] w fun e w' => e = .returned (.bool true) ∧ Below w.heap.size w w' := by
  have HT := hid ht
  clear ht
  go_enter Tryd.func3, Tryd.ntmps3
  go_wp2_with fail
  have HB := hid (Below.refl w.heap.size w)
  refine (shown_any HT.out).mono ?_
  rintro e w1 ⟨rfl, hb⟩
  replace HB := hid (below_on HB.out hb)
  clear hb
  go_wp2_with fail
  refine (ofInt_any).mono ?_
  rintro e w2 ⟨rfl, hb⟩
  replace HB := hid (below_on HB.out hb)
  clear hb
  go_wp2_with fail
  have K0 := hid (alloc_block w2 (.cells (cellsOf 1 n ⟨#[]⟩ 0 0 0 0 0 0 0 0) 25 (0, 0)))
  replace HB := hid (below_on HB.out ((Below.refl _ _).alloc (Nat.le_refl _) (.cells (cellsOf 1 n ⟨#[]⟩ 0 0 0 0 0 0 0 0) 25 (0, 0))))
  generalize (w2.alloc (.cells (cellsOf 1 n ⟨#[]⟩ 0 0 0 0 0 0 0 0) 25 (0, 0))) = W3 at *
  generalize w2.heap.size = bk0 at *
  have c0 := fun o => block_cell K0.out o
  have l0 := lt_of_block K0.out
  refine (ofStr_any).mono ?_
  rintro e w4 ⟨rfl, hb⟩
  clear c0 l0
  replace K0 := hid (block_on K0.out hb)
  replace HB := hid (below_on HB.out hb)
  clear hb
  have c0 := fun o => block_cell K0.out o
  have l0 := lt_of_block K0.out
  go_wp2_with fail
  clear c0 l0
  have K1 := hid (alloc_block w4 (.cells (cellsOf 2 0 (cut64 s) 0 0 0 0 0 0 0 0) 25 (0, 0)))
  replace K0 := hid (block_on K0.out ((Below.refl _ _).alloc (Nat.le_refl _) (.cells (cellsOf 2 0 (cut64 s) 0 0 0 0 0 0 0 0) 25 (0, 0))))
  replace HB := hid (below_on HB.out ((Below.refl _ _).alloc (Nat.le_refl _) (.cells (cellsOf 2 0 (cut64 s) 0 0 0 0 0 0 0 0) 25 (0, 0))))
  generalize (w4.alloc (.cells (cellsOf 2 0 (cut64 s) 0 0 0 0 0 0 0 0) 25 (0, 0))) = W5 at *
  generalize w4.heap.size = bk1 at *
  have c0 := fun o => block_cell K0.out o
  have l0 := lt_of_block K0.out
  have c1 := fun o => block_cell K1.out o
  have l1 := lt_of_block K1.out
  refine (ofBool_any).mono ?_
  rintro e w6 ⟨rfl, hb⟩
  clear c0 l0 c1 l1
  replace K0 := hid (block_on K0.out hb)
  replace K1 := hid (block_on K1.out hb)
  replace HB := hid (below_on HB.out hb)
  clear hb
  have c0 := fun o => block_cell K0.out o
  have l0 := lt_of_block K0.out
  have c1 := fun o => block_cell K1.out o
  have l1 := lt_of_block K1.out
  go_wp2_with fail
  clear c0 l0 c1 l1
  have K2 := hid (alloc_block w6 (.cells (cellsOf 3 (b2i b) ⟨#[]⟩ 0 0 0 0 0 0 0 0) 25 (0, 0)))
  replace K0 := hid (block_on K0.out ((Below.refl _ _).alloc (Nat.le_refl _) (.cells (cellsOf 3 (b2i b) ⟨#[]⟩ 0 0 0 0 0 0 0 0) 25 (0, 0))))
  replace K1 := hid (block_on K1.out ((Below.refl _ _).alloc (Nat.le_refl _) (.cells (cellsOf 3 (b2i b) ⟨#[]⟩ 0 0 0 0 0 0 0 0) 25 (0, 0))))
  replace HB := hid (below_on HB.out ((Below.refl _ _).alloc (Nat.le_refl _) (.cells (cellsOf 3 (b2i b) ⟨#[]⟩ 0 0 0 0 0 0 0 0) 25 (0, 0))))
  generalize (w6.alloc (.cells (cellsOf 3 (b2i b) ⟨#[]⟩ 0 0 0 0 0 0 0 0) 25 (0, 0))) = W7 at *
  generalize w6.heap.size = bk2 at *
  have c0 := fun o => block_cell K0.out o
  have l0 := lt_of_block K0.out
  have c1 := fun o => block_cell K1.out o
  have l1 := lt_of_block K1.out
  have c2 := fun o => block_cell K2.out o
  have l2 := lt_of_block K2.out
  clear c0 l0 c1 l1 c2 l2
  have q0 : ∀ d os o, (grow (redrawn W7 d) os).cell? ⟨bk0, o, none⟩ = (cellsOf 1 n ⟨#[]⟩ 0 0 0 0 0 0 0 0)[o]? := fun d os o => block_cell (block_on K0.out (below_regrown W7 d os)) o
  have q1 : ∀ d os o, (grow (redrawn W7 d) os).cell? ⟨bk1, o, none⟩ = (cellsOf 2 0 (cut64 s) 0 0 0 0 0 0 0 0)[o]? := fun d os o => block_cell (block_on K1.out (below_regrown W7 d os)) o
  have q2 : ∀ d os o, (grow (redrawn W7 d) os).cell? ⟨bk2, o, none⟩ = (cellsOf 3 (b2i b) ⟨#[]⟩ 0 0 0 0 0 0 0 0)[o]? := fun d os o => block_cell (block_on K2.out (below_regrown W7 d os)) o
  have HT' : ∀ d os, Hid (Tab (grow (redrawn W7 d) os)) := fun d os => HT.out.on (below_on HB.out (below_regrown W7 d os))
  have e1 := @eql24
  have e2 := eqV_self
  have e3 := valid_of_int n
  have e4 := valid_of_str s
  have e5 := valid_of_bool b
  refine wp_region_quiet_below (by kernel_rfl) (by kernel_rfl) ?_
  repeat (go_big_quiet_step (first
    | (go_at_call 11; exact Calls.regrown_of rofInt_any)
    | (go_at_call 12; exact Calls.regrown_of rofStr_any)
    | (go_at_call 13; exact Calls.regrown_of rofBool_any)
    | (go_at_call 14; exact Calls.regrown_of valid_any)))
  refine wpQuiet_nil ?_
  intro _ hw'
  obtain ⟨⟨dq, osq⟩, hw''⟩ := hw'
  subst hw''
  go_wp2
  go_ret
  exact ⟨rfl, below_on HB.out (below_regrown W7 dq osq)⟩
end Go.Proofs.YtjplnelffiegmabDoor
