/-
  catchmentlaw01.ValueValid returns true for every value, and turns nothing older in memory. Condition: the table of the powers of ten of Go's strconv is as it is laid.
-/
import Derived.Test.YtjplnelffiegmaaDoorRefText
namespace Go.Proofs.YtjplnelffiegmaaDoor
open Go.RowKit Go.Joins Go.Sort
theorem text_is {k n : Int} {s : ByteArray} {a0 a1 a2 a3 a4 a5 a6 a7 : Int} {w : World} (T : ByteArray) (hT : (⟨(textV k n s a0 a1 a2 a3 a4 a5 a6 a7).toArray⟩ : ByteArray) = T) (hv : validB k n s a0 a1 a2 a3 a4 a5 a6 a7 = true) (hn : In64 n) (hok : ∀ i, i < 8 → In64 (nth8 a0 a1 a2 a3 a4 a5 a6 a7 i)) (ht : Tab w) :
    Calls Tryd.prog 12 #[V k n s a0 a1 a2 a3 a4 a5 a6 a7] w fun e w' => e = .returned (.string T) ∧ Below w.heap.size w w' := by
  rw [← hT]; exact text_valid hv hn hok ht
theorem rtext_is {k n : Int} {s : ByteArray} {a0 a1 a2 a3 a4 a5 a6 a7 : Int} {w : World} (T : ByteArray) (hT : (⟨(textV k n s a0 a1 a2 a3 a4 a5 a6 a7).toArray⟩ : ByteArray) = T) (hv : validB k n s a0 a1 a2 a3 a4 a5 a6 a7 = true) (hn : In64 n) (hok : ∀ i, i < 8 → In64 (nth8 a0 a1 a2 a3 a4 a5 a6 a7 i)) :
    Calls Tryd.prog 13 #[V k n s a0 a1 a2 a3 a4 a5 a6 a7] w fun e w' => e = .returned (.string T) ∧ Below w.heap.size w w' := by
  rw [← hT]; exact rtext_valid hv hn hok
set_option maxHeartbeats 1000000 in
set_option maxRecDepth 100000 in
theorem valueValid_no {k n : Int} {s : ByteArray} {a0 a1 a2 a3 a4 a5 a6 a7 : Int} {w : World} (hv : validB k n s a0 a1 a2 a3 a4 a5 a6 a7 = false) (ht : Tab w) :
    Calls Tryd.prog 3 #[V k n s a0 a1 a2 a3 a4 a5 a6 a7] w fun e w' => e = .returned (.bool true) ∧ Below w.heap.size w w' := by
  have HT := hid ht
  have HV := hid hv
  clear ht hv
  go_enter Tryd.func3, Tryd.ntmps3
  go_wp2_with fail
  have HB := hid (show Below w.heap.size w (w.alloc (.cells (cellsOf k n s a0 a1 a2 a3 a4 a5 a6 a7) 24 (0, 0))) from by go_grown)
  have K0 : Hid ((w.alloc (.cells (cellsOf k n s a0 a1 a2 a3 a4 a5 a6 a7) 24 (0, 0))).heap[w.heap.size]? = some (.cells (cellsOf k n s a0 a1 a2 a3 a4 a5 a6 a7) 24 (0, 0))) := alloc_block w (.cells (cellsOf k n s a0 a1 a2 a3 a4 a5 a6 a7) 24 (0, 0))
  generalize (w.alloc (.cells (cellsOf k n s a0 a1 a2 a3 a4 a5 a6 a7) 24 (0, 0))) = W0 at *
  have c0 := fun o => block_cell K0.out o
  have l0 := lt_of_block K0.out
  refine (shown_any (HT.out.on HB.out)).mono ?_
  rintro e w1 ⟨rfl, hb⟩
  clear c0 l0
  replace K0 := hid (block_on K0.out hb)
  replace HB := hid (below_on HB.out hb)
  clear hb
  have c0 := fun o => block_cell K0.out o
  have l0 := lt_of_block K0.out
  go_wp2_with fail
  clear c0 l0
  have q0 : ∀ d os o, (grow (redrawn w1 d) os).cell? ⟨w.heap.size, o, none⟩ = (cellsOf k n s a0 a1 a2 a3 a4 a5 a6 a7)[o]? := fun d os o => block_cell (block_on K0.out (below_regrown w1 d os)) o
  have HT' : ∀ d os, Hid (Tab (grow (redrawn w1 d) os)) := fun d os => HT.out.on (below_on HB.out (below_regrown w1 d os))
  refine wp_region_quiet_below (by kernel_rfl) (by kernel_rfl) ?_
  repeat (go_big_quiet_step (first
    | (go_at_call 10; exact Calls.regrown_of (valid_is false HV.out))
    | (go_at_call 11; exact Calls.regrown_of (rvalid_is false HV.out))
    | (go_at_call 12; exact Calls.regrown_of (text_bad HV.out))
    | (go_at_call 13; exact Calls.regrown_of (rtext_bad HV.out))))
  refine wpQuiet_nil ?_
  intro _ hw'
  obtain ⟨⟨dq, osq⟩, hw''⟩ := hw'
  subst hw''
  go_wp2
  go_ret
  exact ⟨rfl, below_on HB.out (below_regrown w1 dq osq)⟩

set_option maxHeartbeats 1000000 in
set_option maxRecDepth 100000 in
theorem valueValid_yes {k n : Int} {s : ByteArray} {a0 a1 a2 a3 a4 a5 a6 a7 : Int} {w : World} (hv : validB k n s a0 a1 a2 a3 a4 a5 a6 a7 = true) (hn : In64 n) (hok : ∀ i, i < 8 → In64 (nth8 a0 a1 a2 a3 a4 a5 a6 a7 i)) (ht : Tab w) :
    Calls Tryd.prog 3 #[V k n s a0 a1 a2 a3 a4 a5 a6 a7] w fun e w' => e = .returned (.bool true) ∧ Below w.heap.size w w' := by
  have HT := hid ht
  have HV := hid hv
  have HN := hid hn
  have HOK := hid hok
  obtain ⟨T, hT⟩ : ∃ T, (⟨(textV k n s a0 a1 a2 a3 a4 a5 a6 a7).toArray⟩ : ByteArray) = T := ⟨_, rfl⟩
  have H1 := hid hT
  clear ht hv hn hok hT
  go_enter Tryd.func3, Tryd.ntmps3
  go_wp2_with fail
  have HB := hid (show Below w.heap.size w (w.alloc (.cells (cellsOf k n s a0 a1 a2 a3 a4 a5 a6 a7) 24 (0, 0))) from by go_grown)
  have K0 : Hid ((w.alloc (.cells (cellsOf k n s a0 a1 a2 a3 a4 a5 a6 a7) 24 (0, 0))).heap[w.heap.size]? = some (.cells (cellsOf k n s a0 a1 a2 a3 a4 a5 a6 a7) 24 (0, 0))) := alloc_block w (.cells (cellsOf k n s a0 a1 a2 a3 a4 a5 a6 a7) 24 (0, 0))
  generalize (w.alloc (.cells (cellsOf k n s a0 a1 a2 a3 a4 a5 a6 a7) 24 (0, 0))) = W0 at *
  have c0 := fun o => block_cell K0.out o
  have l0 := lt_of_block K0.out
  refine (shown_any (HT.out.on HB.out)).mono ?_
  rintro e w1 ⟨rfl, hb⟩
  clear c0 l0
  replace K0 := hid (block_on K0.out hb)
  replace HB := hid (below_on HB.out hb)
  clear hb
  have c0 := fun o => block_cell K0.out o
  have l0 := lt_of_block K0.out
  go_wp2_with fail
  clear c0 l0
  have q0 : ∀ d os o, (grow (redrawn w1 d) os).cell? ⟨w.heap.size, o, none⟩ = (cellsOf k n s a0 a1 a2 a3 a4 a5 a6 a7)[o]? := fun d os o => block_cell (block_on K0.out (below_regrown w1 d os)) o
  have HT' : ∀ d os, Hid (Tab (grow (redrawn w1 d) os)) := fun d os => HT.out.on (below_on HB.out (below_regrown w1 d os))
  refine wp_region_quiet_below (by kernel_rfl) (by kernel_rfl) ?_
  repeat (go_big_quiet_step (first
    | (go_at_call 10; exact Calls.regrown_of (valid_is true HV.out))
    | (go_at_call 11; exact Calls.regrown_of (rvalid_is true HV.out))
    | (go_at_call 12; exact Calls.regrown_of (text_is T H1.out HV.out HN.out HOK.out (HT' _ _).out))
    | (go_at_call 13; exact Calls.regrown_of (rtext_is T H1.out HV.out HN.out HOK.out))))
  refine wpQuiet_nil ?_
  intro _ hw'
  obtain ⟨⟨dq, osq⟩, hw''⟩ := hw'
  subst hw''
  go_wp2
  go_ret
  exact ⟨rfl, below_on HB.out (below_regrown w1 dq osq)⟩

theorem valueValid_any {k n : Int} {s : ByteArray} {a0 a1 a2 a3 a4 a5 a6 a7 : Int} {w : World} (hn : In64 n) (hok : ∀ i, i < 8 → In64 (nth8 a0 a1 a2 a3 a4 a5 a6 a7 i)) (ht : Tab w) :
    Calls Tryd.prog 3 #[V k n s a0 a1 a2 a3 a4 a5 a6 a7] w fun e w' => e = .returned (.bool true) ∧ Below w.heap.size w w' := by
  cases hv : validB k n s a0 a1 a2 a3 a4 a5 a6 a7
  · exact valueValid_no hv ht
  · exact valueValid_yes hv hn hok ht
end Go.Proofs.YtjplnelffiegmaaDoor
