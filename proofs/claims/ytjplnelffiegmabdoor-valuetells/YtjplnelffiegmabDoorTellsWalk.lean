/-
  catchmentlaw01.ValueTells returns true for every two values, and turns nothing older in memory. Condition: the table of the powers of ten of Go's strconv is as it is laid.
-/
import Derived.Test.YtjplnelffiegmabDoorTell
namespace Go.Proofs.YtjplnelffiegmabDoor
open Go.RowKit Go.Joins Go.Sort
theorem text_is {k n : Int} {s : ByteArray} {a0 a1 a2 a3 a4 a5 a6 a7 : Int} {w : World} (T : ByteArray) (hT : (⟨(textV k n s a0 a1 a2 a3 a4 a5 a6 a7).toArray⟩ : ByteArray) = T) (hv : validB k n s a0 a1 a2 a3 a4 a5 a6 a7 = true) (hn : In64 n) (hok : ∀ i, i < 8 → In64 (nth8 a0 a1 a2 a3 a4 a5 a6 a7 i)) (ht : Tab w) :
    Calls Tryd.prog 16 #[V k n s a0 a1 a2 a3 a4 a5 a6 a7] w fun e w' => e = .returned (.string T) ∧ Below w.heap.size w w' := by
  rw [← hT]; exact text_valid hv hn hok ht
theorem of_list (l : List UInt8) : (⟨l.toArray⟩ : ByteArray).toList = l := by rw [ByteArray.toList_eq]

set_option maxHeartbeats 1000000 in
set_option maxRecDepth 100000 in
theorem valueTells_1 {k n : Int} {s : ByteArray} {a0 a1 a2 a3 a4 a5 a6 a7 : Int} {k' n' : Int} {s' : ByteArray} {b0 b1 b2 b3 b4 b5 b6 b7 : Int} {w : World} (hv : validB k n s a0 a1 a2 a3 a4 a5 a6 a7 = false) (ht : Tab w) :
    Calls Tryd.prog 5 #[V k n s a0 a1 a2 a3 a4 a5 a6 a7, V k' n' s' b0 b1 b2 b3 b4 b5 b6 b7] w fun e w' => e = .returned (.bool true) ∧ Below w.heap.size w w' := by
  have HT := hid ht
  have HV := hid hv
  clear ht hv
  go_enter Tryd.func5, Tryd.ntmps5
  go_wp2_with fail
  have HB := hid (show Below w.heap.size w ((w.alloc (.cells (cellsOf k n s a0 a1 a2 a3 a4 a5 a6 a7) 25 (0, 0))).alloc (.cells (cellsOf k' n' s' b0 b1 b2 b3 b4 b5 b6 b7) 25 (0, 0))) from by go_grown)
  have K0 : Hid (((w.alloc (.cells (cellsOf k n s a0 a1 a2 a3 a4 a5 a6 a7) 25 (0, 0))).alloc (.cells (cellsOf k' n' s' b0 b1 b2 b3 b4 b5 b6 b7) 25 (0, 0))).heap[w.heap.size]? = some (.cells (cellsOf k n s a0 a1 a2 a3 a4 a5 a6 a7) 25 (0, 0))) := block_on (alloc_block w (.cells (cellsOf k n s a0 a1 a2 a3 a4 a5 a6 a7) 25 (0, 0))) ((Below.refl _ _).alloc (Nat.le_refl _) (.cells (cellsOf k' n' s' b0 b1 b2 b3 b4 b5 b6 b7) 25 (0, 0)))
  have K1 : Hid (((w.alloc (.cells (cellsOf k n s a0 a1 a2 a3 a4 a5 a6 a7) 25 (0, 0))).alloc (.cells (cellsOf k' n' s' b0 b1 b2 b3 b4 b5 b6 b7) 25 (0, 0))).heap[w.heap.size + 1]? = some (.cells (cellsOf k' n' s' b0 b1 b2 b3 b4 b5 b6 b7) 25 (0, 0))) := by have h := alloc_block (w.alloc (.cells (cellsOf k n s a0 a1 a2 a3 a4 a5 a6 a7) 25 (0, 0))) (.cells (cellsOf k' n' s' b0 b1 b2 b3 b4 b5 b6 b7) 25 (0, 0)); simp only [World.size_alloc] at h; exact h
  generalize ((w.alloc (.cells (cellsOf k n s a0 a1 a2 a3 a4 a5 a6 a7) 25 (0, 0))).alloc (.cells (cellsOf k' n' s' b0 b1 b2 b3 b4 b5 b6 b7) 25 (0, 0))) = W0 at *
  have c0 := fun o => block_cell K0.out o
  have l0 := lt_of_block K0.out
  have c1 := fun o => block_cell K1.out o
  have l1 := lt_of_block K1.out
  refine (shown_any (HT.out.on HB.out)).mono ?_
  rintro e w1 ⟨rfl, hb⟩
  clear c0 l0 c1 l1
  replace K0 := hid (block_on K0.out hb)
  replace K1 := hid (block_on K1.out hb)
  replace HB := hid (below_on HB.out hb)
  clear hb
  have c0 := fun o => block_cell K0.out o
  have l0 := lt_of_block K0.out
  have c1 := fun o => block_cell K1.out o
  have l1 := lt_of_block K1.out
  go_wp2_with fail
  refine (valid_is false HV.out).mono ?_
  rintro e w2 ⟨rfl, hb⟩
  clear c0 l0 c1 l1
  replace K0 := hid (block_on K0.out hb)
  replace K1 := hid (block_on K1.out hb)
  replace HB := hid (below_on HB.out hb)
  clear hb
  have c0 := fun o => block_cell K0.out o
  have l0 := lt_of_block K0.out
  have c1 := fun o => block_cell K1.out o
  have l1 := lt_of_block K1.out
  go_wp2_with fail
  go_ret
  exact ⟨rfl, HB.out⟩

set_option maxHeartbeats 1000000 in
set_option maxRecDepth 100000 in
theorem valueTells_2 {k n : Int} {s : ByteArray} {a0 a1 a2 a3 a4 a5 a6 a7 : Int} {k' n' : Int} {s' : ByteArray} {b0 b1 b2 b3 b4 b5 b6 b7 : Int} {w : World} (hv : validB k n s a0 a1 a2 a3 a4 a5 a6 a7 = true) (hv' : validB k' n' s' b0 b1 b2 b3 b4 b5 b6 b7 = false) (ht : Tab w) :
    Calls Tryd.prog 5 #[V k n s a0 a1 a2 a3 a4 a5 a6 a7, V k' n' s' b0 b1 b2 b3 b4 b5 b6 b7] w fun e w' => e = .returned (.bool true) ∧ Below w.heap.size w w' := by
  have HT := hid ht
  have HV := hid hv
  have HV' := hid hv'
  clear ht hv hv'
  go_enter Tryd.func5, Tryd.ntmps5
  go_wp2_with fail
  have HB := hid (show Below w.heap.size w ((w.alloc (.cells (cellsOf k n s a0 a1 a2 a3 a4 a5 a6 a7) 25 (0, 0))).alloc (.cells (cellsOf k' n' s' b0 b1 b2 b3 b4 b5 b6 b7) 25 (0, 0))) from by go_grown)
  have K0 : Hid (((w.alloc (.cells (cellsOf k n s a0 a1 a2 a3 a4 a5 a6 a7) 25 (0, 0))).alloc (.cells (cellsOf k' n' s' b0 b1 b2 b3 b4 b5 b6 b7) 25 (0, 0))).heap[w.heap.size]? = some (.cells (cellsOf k n s a0 a1 a2 a3 a4 a5 a6 a7) 25 (0, 0))) := block_on (alloc_block w (.cells (cellsOf k n s a0 a1 a2 a3 a4 a5 a6 a7) 25 (0, 0))) ((Below.refl _ _).alloc (Nat.le_refl _) (.cells (cellsOf k' n' s' b0 b1 b2 b3 b4 b5 b6 b7) 25 (0, 0)))
  have K1 : Hid (((w.alloc (.cells (cellsOf k n s a0 a1 a2 a3 a4 a5 a6 a7) 25 (0, 0))).alloc (.cells (cellsOf k' n' s' b0 b1 b2 b3 b4 b5 b6 b7) 25 (0, 0))).heap[w.heap.size + 1]? = some (.cells (cellsOf k' n' s' b0 b1 b2 b3 b4 b5 b6 b7) 25 (0, 0))) := by have h := alloc_block (w.alloc (.cells (cellsOf k n s a0 a1 a2 a3 a4 a5 a6 a7) 25 (0, 0))) (.cells (cellsOf k' n' s' b0 b1 b2 b3 b4 b5 b6 b7) 25 (0, 0)); simp only [World.size_alloc] at h; exact h
  generalize ((w.alloc (.cells (cellsOf k n s a0 a1 a2 a3 a4 a5 a6 a7) 25 (0, 0))).alloc (.cells (cellsOf k' n' s' b0 b1 b2 b3 b4 b5 b6 b7) 25 (0, 0))) = W0 at *
  have c0 := fun o => block_cell K0.out o
  have l0 := lt_of_block K0.out
  have c1 := fun o => block_cell K1.out o
  have l1 := lt_of_block K1.out
  refine (shown_any (HT.out.on HB.out)).mono ?_
  rintro e w1 ⟨rfl, hb⟩
  clear c0 l0 c1 l1
  replace K0 := hid (block_on K0.out hb)
  replace K1 := hid (block_on K1.out hb)
  replace HB := hid (below_on HB.out hb)
  clear hb
  have c0 := fun o => block_cell K0.out o
  have l0 := lt_of_block K0.out
  have c1 := fun o => block_cell K1.out o
  have l1 := lt_of_block K1.out
  go_wp2_with fail
  refine (valid_is true HV.out).mono ?_
  rintro e w2 ⟨rfl, hb⟩
  clear c0 l0 c1 l1
  replace K0 := hid (block_on K0.out hb)
  replace K1 := hid (block_on K1.out hb)
  replace HB := hid (below_on HB.out hb)
  clear hb
  have c0 := fun o => block_cell K0.out o
  have l0 := lt_of_block K0.out
  have c1 := fun o => block_cell K1.out o
  have l1 := lt_of_block K1.out
  go_wp2_with fail
  refine (valid_is false HV'.out).mono ?_
  rintro e w3 ⟨rfl, hb⟩
  clear c0 l0 c1 l1
  replace K0 := hid (block_on K0.out hb)
  replace K1 := hid (block_on K1.out hb)
  replace HB := hid (below_on HB.out hb)
  clear hb
  have c0 := fun o => block_cell K0.out o
  have l0 := lt_of_block K0.out
  have c1 := fun o => block_cell K1.out o
  have l1 := lt_of_block K1.out
  go_wp2_with fail
  go_ret
  exact ⟨rfl, HB.out⟩

set_option maxHeartbeats 1000000 in
set_option maxRecDepth 100000 in
theorem valueTells_3 {k n : Int} {s : ByteArray} {a0 a1 a2 a3 a4 a5 a6 a7 : Int} {k' n' : Int} {s' : ByteArray} {b0 b1 b2 b3 b4 b5 b6 b7 : Int} {w : World} (hv : validB k n s a0 a1 a2 a3 a4 a5 a6 a7 = true) (hv' : validB k' n' s' b0 b1 b2 b3 b4 b5 b6 b7 = true) (hn : In64 n) (hn' : In64 n') (hok : ∀ i, i < 8 → In64 (nth8 a0 a1 a2 a3 a4 a5 a6 a7 i)) (hok' : ∀ i, i < 8 → In64 (nth8 b0 b1 b2 b3 b4 b5 b6 b7 i)) (ht : Tab w) (T1 T2 : ByteArray) (h1 : (⟨(textV k n s a0 a1 a2 a3 a4 a5 a6 a7).toArray⟩ : ByteArray) = T1) (h2 : (⟨(textV k' n' s' b0 b1 b2 b3 b4 b5 b6 b7).toArray⟩ : ByteArray) = T2)
    (x : Bool) (h12 : (T1.toList == T2.toList) = x) (hE : eqV k n s a0 a1 a2 a3 a4 a5 a6 a7 k' n' s' b0 b1 b2 b3 b4 b5 b6 b7 = x) (hne : T1.toList.isEmpty = false) :
    Calls Tryd.prog 5 #[V k n s a0 a1 a2 a3 a4 a5 a6 a7, V k' n' s' b0 b1 b2 b3 b4 b5 b6 b7] w fun e w' => e = .returned (.bool true) ∧ Below w.heap.size w w' := by
  have HT := hid ht
  have HV := hid hv
  have HV' := hid hv'
  have HN := hid hn
  have HN' := hid hn'
  have HOK := hid hok
  have HOK' := hid hok'
  have H1 := hid h1
  have H2 := hid h2
  clear ht hv hv' hn hn' hok hok' h1 h2
  cases x
  all_goals
    go_enter Tryd.func5, Tryd.ntmps5
    go_wp2_with fail
    have HB := hid (show Below w.heap.size w ((w.alloc (.cells (cellsOf k n s a0 a1 a2 a3 a4 a5 a6 a7) 25 (0, 0))).alloc (.cells (cellsOf k' n' s' b0 b1 b2 b3 b4 b5 b6 b7) 25 (0, 0))) from by go_grown)
    have K0 : Hid (((w.alloc (.cells (cellsOf k n s a0 a1 a2 a3 a4 a5 a6 a7) 25 (0, 0))).alloc (.cells (cellsOf k' n' s' b0 b1 b2 b3 b4 b5 b6 b7) 25 (0, 0))).heap[w.heap.size]? = some (.cells (cellsOf k n s a0 a1 a2 a3 a4 a5 a6 a7) 25 (0, 0))) := block_on (alloc_block w (.cells (cellsOf k n s a0 a1 a2 a3 a4 a5 a6 a7) 25 (0, 0))) ((Below.refl _ _).alloc (Nat.le_refl _) (.cells (cellsOf k' n' s' b0 b1 b2 b3 b4 b5 b6 b7) 25 (0, 0)))
    have K1 : Hid (((w.alloc (.cells (cellsOf k n s a0 a1 a2 a3 a4 a5 a6 a7) 25 (0, 0))).alloc (.cells (cellsOf k' n' s' b0 b1 b2 b3 b4 b5 b6 b7) 25 (0, 0))).heap[w.heap.size + 1]? = some (.cells (cellsOf k' n' s' b0 b1 b2 b3 b4 b5 b6 b7) 25 (0, 0))) := by have h := alloc_block (w.alloc (.cells (cellsOf k n s a0 a1 a2 a3 a4 a5 a6 a7) 25 (0, 0))) (.cells (cellsOf k' n' s' b0 b1 b2 b3 b4 b5 b6 b7) 25 (0, 0)); simp only [World.size_alloc] at h; exact h
    generalize ((w.alloc (.cells (cellsOf k n s a0 a1 a2 a3 a4 a5 a6 a7) 25 (0, 0))).alloc (.cells (cellsOf k' n' s' b0 b1 b2 b3 b4 b5 b6 b7) 25 (0, 0))) = W0 at *
    have c0 := fun o => block_cell K0.out o
    have l0 := lt_of_block K0.out
    have c1 := fun o => block_cell K1.out o
    have l1 := lt_of_block K1.out
    refine (shown_any (HT.out.on HB.out)).mono ?_
    rintro e w1 ⟨rfl, hb⟩
    clear c0 l0 c1 l1
    replace K0 := hid (block_on K0.out hb)
    replace K1 := hid (block_on K1.out hb)
    replace HB := hid (below_on HB.out hb)
    clear hb
    have c0 := fun o => block_cell K0.out o
    have l0 := lt_of_block K0.out
    have c1 := fun o => block_cell K1.out o
    have l1 := lt_of_block K1.out
    go_wp2_with fail
    refine (valid_is true HV.out).mono ?_
    rintro e w2 ⟨rfl, hb⟩
    clear c0 l0 c1 l1
    replace K0 := hid (block_on K0.out hb)
    replace K1 := hid (block_on K1.out hb)
    replace HB := hid (below_on HB.out hb)
    clear hb
    have c0 := fun o => block_cell K0.out o
    have l0 := lt_of_block K0.out
    have c1 := fun o => block_cell K1.out o
    have l1 := lt_of_block K1.out
    go_wp2_with fail
    refine (valid_is true HV'.out).mono ?_
    rintro e w3 ⟨rfl, hb⟩
    clear c0 l0 c1 l1
    replace K0 := hid (block_on K0.out hb)
    replace K1 := hid (block_on K1.out hb)
    replace HB := hid (below_on HB.out hb)
    clear hb
    have c0 := fun o => block_cell K0.out o
    have l0 := lt_of_block K0.out
    have c1 := fun o => block_cell K1.out o
    have l1 := lt_of_block K1.out
    go_wp2_with fail
    clear c0 l0 c1 l1
    have q0 : ∀ d os o, (grow (redrawn w3 d) os).cell? ⟨w.heap.size, o, none⟩ = (cellsOf k n s a0 a1 a2 a3 a4 a5 a6 a7)[o]? := fun d os o => block_cell (block_on K0.out (below_regrown w3 d os)) o
    have q1 : ∀ d os o, (grow (redrawn w3 d) os).cell? ⟨w.heap.size + 1, o, none⟩ = (cellsOf k' n' s' b0 b1 b2 b3 b4 b5 b6 b7)[o]? := fun d os o => block_cell (block_on K1.out (below_regrown w3 d os)) o
    have HT' : ∀ d os, Hid (Tab (grow (redrawn w3 d) os)) := fun d os => HT.out.on (below_on HB.out (below_regrown w3 d os))
    have e1 := @eql24
    refine wp_region_quiet_below (by kernel_rfl) (by kernel_rfl) ?_
    repeat (go_big_quiet_step (first
      | (go_at_call_of 16 n; exact Calls.regrown_of (text_is T1 H1.out HV.out HN.out HOK.out (HT' _ _).out))
      | (go_at_call_of 16 n'; exact Calls.regrown_of (text_is T2 H2.out HV'.out HN'.out HOK'.out (HT' _ _).out))))
    refine wpQuiet_nil ?_
    intro _ hw'
    obtain ⟨⟨dq, osq⟩, hw''⟩ := hw'
    subst hw''
    go_wp2
    go_ret
    exact ⟨rfl, below_on HB.out (below_regrown w3 dq osq)⟩

theorem valueTells_any {k n : Int} {s : ByteArray} {a0 a1 a2 a3 a4 a5 a6 a7 : Int} {k' n' : Int} {s' : ByteArray} {b0 b1 b2 b3 b4 b5 b6 b7 : Int} {w : World} (hn : In64 n) (hn' : In64 n') (hok : ∀ i, i < 8 → In64 (nth8 a0 a1 a2 a3 a4 a5 a6 a7 i)) (hok' : ∀ i, i < 8 → In64 (nth8 b0 b1 b2 b3 b4 b5 b6 b7 i)) (ht : Tab w) :
    Calls Tryd.prog 5 #[V k n s a0 a1 a2 a3 a4 a5 a6 a7, V k' n' s' b0 b1 b2 b3 b4 b5 b6 b7] w fun e w' => e = .returned (.bool true) ∧ Below w.heap.size w w' := by
  cases hv : validB k n s a0 a1 a2 a3 a4 a5 a6 a7
  · exact valueTells_1 hv ht
  · cases hv' : validB k' n' s' b0 b1 b2 b3 b4 b5 b6 b7
    · exact valueTells_2 hv hv' ht
    · have hne := text_ne hv
      refine valueTells_3 hv hv' hn hn' hok hok' ht _ _ rfl rfl _ ?_ rfl ?_
      · rw [of_list, of_list, Bool.eq_iff_iff, beq_iff_eq]
        exact ⟨fun h => text_inj hv hv' h, fun h => text_of_eq h⟩
      · rw [of_list]
        cases h : textV k n s a0 a1 a2 a3 a4 a5 a6 a7 with
        | nil => exact absurd h hne
        | cons c l => rfl
end Go.Proofs.YtjplnelffiegmabDoor
