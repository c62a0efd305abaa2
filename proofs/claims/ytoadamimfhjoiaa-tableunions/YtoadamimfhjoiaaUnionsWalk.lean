/-
  The walk of catchmentlaw02.TableUnions.
-/
import Derived.Test.YtoadamimfhjoiaaSameWalk
import Derived.Test.YtoadamimfhjoiaaRUnion
namespace Go.Proofs.Ytoadamimfhjoiaa
open Go.RowKit Go.Sort Go.Shelf

theorem unionT {s t : Value} {cs ds C : List Cl} {rs qs R : List Rw} {E : Int} {w : World} (hs : TabAt w s cs rs) (ht : TabAt w t ds qs) (hl : rs.length + qs.length ≤ 4096) (hE : unionE cs rs ds qs = E) (hC : unionC cs rs ds qs = C) (hR : unionR cs rs ds qs = R) :
    Calls Try.prog 22 #[s, t] w fun e w' => ∃ pc capc pr capr, e = .returned (.tuple #[.agg #[.slice pc C.length capc, .slice pr R.length capr], .int .i64 E]) ∧ TabAt w' (.agg #[.slice pc C.length capc, .slice pr R.length capr]) C R ∧ Below w.heap.size w w' :=
  (union_any hs ht hl).mono fun e w' ⟨v', he, h1, hb⟩ => by
    rw [hC, hR] at h1
    rw [hE] at he
    obtain ⟨pc, capc, pr, capr, e1⟩ := h1.at.form rfl rfl
    subst e1
    exact ⟨pc, capc, pr, capr, he, h1.at, hb⟩
theorem runionT {s t : Value} {cs ds C : List Cl} {rs qs R : List Rw} {E : Int} {w : World} (hs : TabAt w s cs rs) (ht : TabAt w t ds qs) (hl : rs.length + qs.length ≤ 4096) (hE : unionE cs rs ds qs = E) (hC : unionC cs rs ds qs = C) (hR : unionR cs rs ds qs = R) :
    Calls Try.prog 23 #[s, t] w fun e w' => ∃ pc capc pr capr, e = .returned (.tuple #[.agg #[.slice pc C.length capc, .slice pr R.length capr], .int .i64 E]) ∧ TabAt w' (.agg #[.slice pc C.length capc, .slice pr R.length capr]) C R ∧ Below w.heap.size w w' :=
  (runion_any hs ht hl).mono fun e w' ⟨v', he, h1, hb⟩ => by
    rw [hC, hR] at h1
    rw [hE] at he
    obtain ⟨pc, capc, pr, capr, e1⟩ := h1.form rfl rfl
    subst e1
    exact ⟨pc, capc, pr, capr, he, h1, hb⟩
theorem union_symm {cs ds : List Cl} {rs qs : List Rw} (h : unionE cs rs ds qs = 0) : unionE ds qs cs rs = 0 ∧ unionC ds qs cs rs = unionC cs rs ds qs ∧ unionR ds qs cs rs = unionR cs rs ds qs := by
  have h0 := h
  unfold unionE at h
  split at h
  · rename_i h1
    split at h
    · rename_i h2
      split at h
      · rename_i h3
        subst h3
        have hE : unionE cs qs cs rs = 0 := by unfold unionE; rw [if_pos h2, if_pos h1, if_pos rfl]
        refine ⟨hE, ?_, ?_⟩
        · unfold unionC; rw [if_pos hE, if_pos h0]
        · unfold unionR; rw [if_pos hE, if_pos h0]; exact sortR_perm_eq List.perm_append_comm
      · cases h
    · rename_i h2; exact absurd h h2
  · rename_i h1; exact absurd h h1
set_option maxRecDepth 100000 in
set_option maxHeartbeats 2000000 in
theorem tableUnions_any {v u : Value} {cs ds : List Cl} {rs qs : List Rw} {w : World} (hv : TabAt w v cs rs) (hu : TabAt w u ds qs) :
    Calls Try.prog 7 #[v, u] w fun e w' => e = .returned (.bool true) ∧ Below w.heap.size w w' := by
  obtain ⟨q, nc, cap', p, n, cap, rfl, hcap, hc⟩ := hv.cuts
  obtain ⟨q2, nc2, cap2', p2, n2, cap2, rfl, hcap2, hc2⟩ := hu.cuts
  have HC := hid hc
  have HC2 := hid hc2
  clear hv hc hu hc2
  have hlen : (rs.take 200).length + (qs.take 200).length ≤ 4096 := by simp; omega
  generalize rs.take 200 = rs' at *
  generalize qs.take 200 = qs' at *
  have HE := hid (below_aa w (.cells #[.slice q nc cap', .slice p n cap] 25) (.cells #[.slice q2 nc2 cap2', .slice p2 n2 cap2] 25))
  have K0 := hid (alloc_blk1' w (.cells #[.slice q nc cap', .slice p n cap] 25) (.cells #[.slice q2 nc2 cap2', .slice p2 n2 cap2] 25))
  have L0 := hid (alloc_blk2' w (.cells #[.slice q nc cap', .slice p n cap] 25) (.cells #[.slice q2 nc2 cap2', .slice p2 n2 cap2] 25))
  have HLEN := hid hlen
  clear hlen
  have AL := hid (fun (W : World) (o : Obj) => (Below.refl W.heap.size W).alloc (Nat.le_refl _) o)
  have HS := hid (fun h => union_symm (cs := cs) (rs := rs') (ds := ds) (qs := qs') h)
  generalize hEE : unionE cs rs' ds qs' = E at *
  generalize hCC : unionC cs rs' ds qs' = C at *
  generalize hRR : unionR cs rs' ds qs' = R at *
  have HEE := hid hEE
  have HCC := hid hCC
  have HRR := hid hRR
  clear hEE hCC hRR
  generalize hm : min n 200 = m at *
  generalize hm2 : min n2 200 = m2 at *
  have M1 : Hid True := trivial
  have M2 : Hid True := trivial
  have M3 : Hid True := trivial
  have M4 : Hid True := trivial
  have M5 : Hid True := trivial
  have M6 : Hid True := trivial
  go_enter Try.func7, Try.ntmps7
  go_wp2_with (first
    | (go_at_call 9; refine shown_any.mono ?_; rintro e w1 ⟨rfl, hb1⟩; have HB1 := hid (below_on HE.out hb1); have K1 := hid (block_on K0.out hb1); have L1 := hid (block_on L0.out hb1); have k1 := block_cell K1.out; clear hb1)
    | (go_at_call 10; clear M1; refine (cut_val hcap).mono ?_; rintro e w2 ⟨rfl, hb2⟩; rw [hm]; have HB2 := hid (below_on HB1.out hb2); have K2 := hid (block_on K1.out hb2); have L2 := hid (block_on L1.out hb2); clear k1 hb2; have k2 := block_cell K2.out; have f2 := frozen_no K2.out; have e2 := block_cell L2.out)
    | (go_at_call 10; clear M2; refine (cut_val hcap2).mono ?_; rintro e w4 ⟨rfl, hb4⟩; rw [hm2]; have K3 := hid (block_on (Joins.block_setCell (i := 1) (Joins.block_setCell (i := 0) K2.out (.slice q nc cap')) (.slice p m cap)) hb4); have L3 := hid (block_on (heap_set2 (i := 1) (u := .slice p m cap) (heap_set2 (i := 0) (u := .slice q nc cap') L2.out (by omega)) (by omega)) hb4); have HB4 := hid (below_on (below_set (i := 1) (u := .slice p m cap) (below_set (i := 0) (u := .slice q nc cap') HB2.out (Nat.le_refl _)) (Nat.le_refl _)) hb4); clear k2 f2 e2 hb4; have k4 := block_cell L3.out; have f4 := frozen_no L3.out; have k4b : ∀ o, w4.cell? ⟨w.heap.size, o, none⟩ = (#[.slice q nc cap', .slice p m cap] : Array Value)[o]? := fun o => block_cell K3.out o))
  have K5 : Hid (((w4.setCell ⟨w.heap.size + 1, 0, none⟩ (.slice q2 nc2 cap2')).setCell ⟨w.heap.size + 1, 1, none⟩ (.slice p2 m2 cap2)).heap[w.heap.size]? = some (.cells #[.slice q nc cap', .slice p m cap] 25 (0, 0))) := heap_set2 (heap_set2 K3.out (by omega)) (by omega)
  have L5 : Hid (((w4.setCell ⟨w.heap.size + 1, 0, none⟩ (.slice q2 nc2 cap2')).setCell ⟨w.heap.size + 1, 1, none⟩ (.slice p2 m2 cap2)).heap[w.heap.size + 1]? = some (.cells #[.slice q2 nc2 cap2', .slice p2 m2 cap2] 25 (0, 0))) := Joins.block_setCell (i := 1) (Joins.block_setCell (i := 0) L3.out (.slice q2 nc2 cap2')) (.slice p2 m2 cap2)
  have HB5 := hid (below_set (R := w.heap.size + 1) (i := 1) (u := .slice p2 m2 cap2) (below_set (R := w.heap.size + 1) (i := 0) (u := .slice q2 nc2 cap2') HB4.out (by omega)) (by omega))
  clear k4 f4 k4b K0 K1 K2 L0 L1 L2 K3 L3 HB1 HB2 HB4 HE hm hm2 hcap hcap2
  generalize ((w4.setCell ⟨w.heap.size + 1, 0, none⟩ (.slice q2 nc2 cap2')).setCell ⟨w.heap.size + 1, 1, none⟩ (.slice p2 m2 cap2)) = W3 at *
  have k0 := block_cell K5.out
  have k1 := block_cell L5.out
  have e1 : ∀ x : Int, (x == x) = true := fun x => by simp
  by_cases hE0 : E = 0
  · subst hE0
    obtain ⟨s1, s2, s3⟩ := HS.out rfl
    have S1 := hid s1
    have S2 := hid s2
    have S3 := hid s3
    clear s1 s2 s3
    go_wp2_with (first | (go_at_call 22; clear M3; refine (unionT (HC.out.on HB5.out) (HC2.out.on HB5.out) HLEN.out HEE.out HCC.out HRR.out).mono ?_; rintro e w6 ⟨pc6, capc6, pr6, capr6, rfl, ht6, hb6⟩; have HT6 := hid ht6; have HB6 := hid hb6; have K6 := hid (block_on K5.out hb6); have L6 := hid (block_on L5.out hb6); clear k0 k1; have k0 := block_cell K6.out; have k1 := block_cell L6.out; have lk := lt_of_block K6.out; have ll := lt_of_block L6.out; clear ht6 hb6) | (go_at_call 23; refine (runionT (HC.out.on (below_on HB5.out (below_on HB6.out (AL.out _ _)))) (HC2.out.on (below_on HB5.out (below_on HB6.out (AL.out _ _)))) HLEN.out HEE.out HCC.out HRR.out).mono ?_; rintro e w8 ⟨pc8, capc8, pr8, capr8, rfl, ht8, hb8⟩; have HT8 := hid ht8; have HB8 := hid (below_on (AL.out _ _) hb8); have K8 := hid (block_on K6.out HB8.out); have L8 := hid (block_on L6.out HB8.out); have B6 := hid (block_on (alloc_block w6 _) hb8); clear k0 k1 lk ll; have k6 := block_cell B6.out; have l6 := lt_of_block B6.out; clear ht8 hb8) | (go_at_call 20; clear M4; refine (rsame_is (HT6.out.on (below_on HB8.out (AL.out _ _))) (HT8.out.on (AL.out _ _)) (sameB_self C R)).mono ?_; rintro e w9 ⟨rfl, hb9⟩; have HB9 := hid (below_on (AL.out _ _) hb9); clear k6 l6; have K9 := hid (block_on K8.out HB9.out); have L9 := hid (block_on L8.out HB9.out); have B69 := hid (block_on B6.out HB9.out); have k0 := block_cell K9.out; have k1 := block_cell L9.out; clear hb9) | (go_at_call 22; clear M5; refine (unionT (HC2.out.on (below_on HB5.out (below_on HB6.out (below_on HB8.out HB9.out)))) (HC.out.on (below_on HB5.out (below_on HB6.out (below_on HB8.out HB9.out)))) (by have := HLEN.out; omega) S1.out S2.out S3.out).mono ?_; rintro e w10 ⟨pc10, capc10, pr10, capr10, rfl, ht10, hb10⟩; have HT10 := hid ht10; have HB10 := hid hb10; have B610 := hid (block_on B69.out hb10); clear k0 k1; have k6 := block_cell B610.out; have l6 := lt_of_block B610.out; clear ht10 hb10) | (go_at_call 20; refine (rsame_is (HT6.out.on (below_on HB8.out (below_on HB9.out (below_on HB10.out (AL.out _ _))))) (HT10.out.on (AL.out _ _)) (sameB_self C R)).mono ?_; rintro e w11 ⟨rfl, hb11⟩; have HB11 := hid (below_on (AL.out _ _) hb11); clear hb11))
    go_ret
    exact ⟨rfl, below_on HB5.out (below_on HB6.out (below_on HB8.out (below_on HB9.out (below_on HB10.out HB11.out))))⟩
  · have hE1 : (E == 0) = false := by simpa using hE0
    have HE0 := hid hE0
    clear hE0
    go_wp2_with (first | (go_at_call 22; clear M3; refine (unionT (HC.out.on HB5.out) (HC2.out.on HB5.out) HLEN.out HEE.out HCC.out HRR.out).mono ?_; rintro e w6 ⟨pc6, capc6, pr6, capr6, rfl, ht6, hb6⟩; have HT6 := hid ht6; have HB6 := hid hb6; have K6 := hid (block_on K5.out hb6); have L6 := hid (block_on L5.out hb6); clear k0 k1; have k0 := block_cell K6.out; have k1 := block_cell L6.out; have lk := lt_of_block K6.out; have ll := lt_of_block L6.out; clear ht6 hb6) | (go_at_call 23; refine (runionT (HC.out.on (below_on HB5.out (below_on HB6.out (AL.out _ _)))) (HC2.out.on (below_on HB5.out (below_on HB6.out (AL.out _ _)))) HLEN.out HEE.out HCC.out HRR.out).mono ?_; rintro e w8 ⟨pc8, capc8, pr8, capr8, rfl, ht8, hb8⟩; have HT8 := hid ht8; have HB8 := hid (below_on (AL.out _ _) hb8); have K8 := hid (block_on K6.out HB8.out); have L8 := hid (block_on L6.out HB8.out); have B6 := hid (block_on (alloc_block w6 _) hb8); clear k0 k1 lk ll; have k6 := block_cell B6.out; have l6 := lt_of_block B6.out; clear ht8 hb8) | (go_at_call 20; clear M4; refine (rsame_is (HT6.out.on (below_on HB8.out (AL.out _ _))) (HT8.out.on (AL.out _ _)) (sameB_self C R)).mono ?_; rintro e w9 ⟨rfl, hb9⟩; have HB9 := hid (below_on (AL.out _ _) hb9); clear k6 l6; have K9 := hid (block_on K8.out HB9.out); have L9 := hid (block_on L8.out HB9.out); have B69 := hid (block_on B6.out HB9.out); have k0 := block_cell K9.out; have k1 := block_cell L9.out; clear hb9))
    go_ret
    exact ⟨rfl, below_on HB5.out (below_on HB6.out (below_on HB8.out HB9.out))⟩
end Go.Proofs.Ytoadamimfhjoiaa
