/-
  The walk of catchmentlaw02.TableSame.
-/
import Derived.Test.YtoadamimfhjoiaaChecksWalk
namespace Go.Proofs.Ytoadamimfhjoiaa
open Go.RowKit Go.Sort Go.Shelf

def sameB (cs : List Cl) (rs : List Rw) (ds : List Cl) (qs : List Rw) : Bool := decide (cs = ds ∧ rs = qs)
theorem sameB_self (cs : List Cl) (rs : List Rw) : sameB cs rs cs rs = true := by simp [sameB]
theorem sameB_symm (cs : List Cl) (rs : List Rw) (ds : List Cl) (qs : List Rw) : sameB ds qs cs rs = sameB cs rs ds qs := by
  unfold sameB
  rw [decide_eq_decide]
  constructor <;> (rintro ⟨h1, h2⟩; exact ⟨h1.symm, h2.symm⟩)
theorem same_is {u v : Value} {cs ds : List Cl} {rs qs : List Rw} {w : World} {c : Bool} (hu : TabAt w u cs rs) (hv : TabAt w v ds qs) (h : sameB cs rs ds qs = c) :
    Calls Try.prog 21 #[u, v] w fun e w' => e = .returned (.bool c) ∧ Below w.heap.size w w' := by rw [← h]; exact same_any hu hv
theorem rsame_is {u v : Value} {cs ds : List Cl} {rs qs : List Rw} {w : World} {c : Bool} (hu : TabAt w u cs rs) (hv : TabAt w v ds qs) (h : sameB cs rs ds qs = c) :
    Calls Try.prog 20 #[u, v] w fun e w' => e = .returned (.bool c) ∧ Below w.heap.size w w' := by rw [← h]; exact rsame_any hu hv
theorem heap_set2 {w : World} {b R i : Nat} {u : Value} {o : Obj} (h : w.heap[b]? = some o) (hne : b ≠ R) : (w.setCell ⟨R, i, none⟩ u).heap[b]? = some o := (heap_setCell_other w ⟨R, i, none⟩ b u hne).trans h
set_option maxHeartbeats 2000000 in
theorem tableSame_any {v u : Value} {cs ds : List Cl} {rs qs : List Rw} {w : World} (hv : TabAt w v cs rs) (hu : TabAt w u ds qs) :
    Calls Try.prog 6 #[v, u] w fun e w' => e = .returned (.bool true) ∧ Below w.heap.size w w' := by
  obtain ⟨q, nc, cap', p, n, cap, rfl, hcap, hc⟩ := hv.cuts
  obtain ⟨q2, nc2, cap2', p2, n2, cap2, rfl, hcap2, hc2⟩ := hu.cuts
  have HC := hid hc
  have HC2 := hid hc2
  clear hv hc hu hc2
  generalize rs.take 200 = rs' at *
  generalize qs.take 200 = qs' at *
  have HE := hid (below_aa w (.cells #[.slice q nc cap', .slice p n cap] 25) (.cells #[.slice q2 nc2 cap2', .slice p2 n2 cap2] 25))
  have K0 := hid (alloc_blk1' w (.cells #[.slice q nc cap', .slice p n cap] 25) (.cells #[.slice q2 nc2 cap2', .slice p2 n2 cap2] 25))
  have L0 := hid (alloc_blk2' w (.cells #[.slice q nc cap', .slice p n cap] 25) (.cells #[.slice q2 nc2 cap2', .slice p2 n2 cap2] 25))
  obtain ⟨ch, hch⟩ : ∃ c, sameB cs rs' ds qs' = c := ⟨_, rfl⟩
  have HCH := hid hch
  have HCH2 := hid ((sameB_symm cs rs' ds qs').trans hch)
  clear hch
  generalize hm : min n 200 = m at *
  generalize hm2 : min n2 200 = m2 at *
  have M1 : Hid True := trivial
  have M2 : Hid True := trivial
  go_enter Try.func6, Try.ntmps6
  go_wp2_with (first
    | (go_at_call 9; refine shown_any.mono ?_; rintro e w1 ⟨rfl, hb1⟩; have HB1 := hid (below_on HE.out hb1); have K1 := hid (block_on K0.out hb1); have L1 := hid (block_on L0.out hb1); have k1 := block_cell K1.out; clear hb1)
    | (go_at_call 10; clear M1; refine (cut_val hcap).mono ?_; rintro e w2 ⟨rfl, hb2⟩; rw [hm]; have HB2 := hid (below_on HB1.out hb2); have K2 := hid (block_on K1.out hb2); have L2 := hid (block_on L1.out hb2); clear k1 hb2; have k2 := block_cell K2.out; have f2 := frozen_no K2.out; have e2 := block_cell L2.out)
    | (go_at_call 10; clear M2; refine (cut_val hcap2).mono ?_; rintro e w4 ⟨rfl, hb4⟩; rw [hm2]; have K3 := hid (block_on (Joins.block_setCell (i := 1) (Joins.block_setCell (i := 0) K2.out (.slice q nc cap')) (.slice p m cap)) hb4); have L3 := hid (block_on (heap_set2 (i := 1) (u := .slice p m cap) (heap_set2 (i := 0) (u := .slice q nc cap') L2.out (by omega)) (by omega)) hb4); have HB4 := hid (below_on (below_set (i := 1) (u := .slice p m cap) (below_set (i := 0) (u := .slice q nc cap') HB2.out (Nat.le_refl _)) (Nat.le_refl _)) hb4); clear k2 f2 e2 hb4; have k4 := block_cell L3.out; have f4 := frozen_no L3.out))
  have K5 : Hid (((w4.setCell ⟨w.heap.size + 1, 0, none⟩ (.slice q2 nc2 cap2')).setCell ⟨w.heap.size + 1, 1, none⟩ (.slice p2 m2 cap2)).heap[w.heap.size]? = some (.cells #[.slice q nc cap', .slice p m cap] 25 (0, 0))) := heap_set2 (heap_set2 K3.out (by omega)) (by omega)
  have L5 : Hid (((w4.setCell ⟨w.heap.size + 1, 0, none⟩ (.slice q2 nc2 cap2')).setCell ⟨w.heap.size + 1, 1, none⟩ (.slice p2 m2 cap2)).heap[w.heap.size + 1]? = some (.cells #[.slice q2 nc2 cap2', .slice p2 m2 cap2] 25 (0, 0))) := Joins.block_setCell (i := 1) (Joins.block_setCell (i := 0) L3.out (.slice q2 nc2 cap2')) (.slice p2 m2 cap2)
  have HB5 := hid (below_set (R := w.heap.size + 1) (i := 1) (u := .slice p2 m2 cap2) (below_set (R := w.heap.size + 1) (i := 0) (u := .slice q2 nc2 cap2') HB4.out (by omega)) (by omega))
  clear k4 f4 K0 K1 K2 L0 L1 L2 K3 L3 HB1 HB2 HB4 HE hm hm2 hcap hcap2
  generalize ((w4.setCell ⟨w.heap.size + 1, 0, none⟩ (.slice q2 nc2 cap2')).setCell ⟨w.heap.size + 1, 1, none⟩ (.slice p2 m2 cap2)) = W3 at *
  have kk := regrown_block K5.out
  have ll := regrown_block L5.out
  have HT : ∀ d os, Hid (TabAt (grow (redrawn W3 d) os) (.agg #[.slice q nc cap', .slice p m cap]) cs rs') := fun d os => HC.out.on (below_on HB5.out (below_regrown W3 d os))
  have HU : ∀ d os, Hid (TabAt (grow (redrawn W3 d) os) (.agg #[.slice q2 nc2 cap2', .slice p2 m2 cap2]) ds qs') := fun d os => HC2.out.on (below_on HB5.out (below_regrown W3 d os))
  refine wp_region_quiet_below (by kernel_rfl) (by kernel_rfl) ?_
  iterate 8 (go_big_quiet_step (first
    | (go_at_call 21; exact Calls.regrown_of (same_is (HT _ _).out (HU _ _).out HCH.out))
    | (go_at_call 20; exact Calls.regrown_of (rsame_is (HT _ _).out (HU _ _).out HCH.out))))
  iterate 6 (go_big_quiet_step (first
    | (go_at_call 21; exact Calls.regrown_of (same_is (HT _ _).out (HT _ _).out (sameB_self _ _)))))
  iterate 5 (go_big_quiet_step (first
    | (go_at_call 21; exact Calls.regrown_of (same_is (HT _ _).out (HU _ _).out HCH.out))))
  repeat (go_big_quiet_step (first
    | (go_at_call 21; exact Calls.regrown_of (same_is (HU _ _).out (HT _ _).out HCH2.out))))
  refine wpQuiet_nil ?_
  intro _ hw'
  obtain ⟨⟨dq, osq⟩, hw''⟩ := hw'
  subst hw''
  go_wp2
  go_ret
  exact ⟨rfl, below_on HB5.out (below_regrown W3 dq osq)⟩
end Go.Proofs.Ytoadamimfhjoiaa
