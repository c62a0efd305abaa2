/-
  The walk of catchmentlaw02.TableKeeps.
-/
import Derived.Test.YtoadamimfhjoiaaSameWalk
import Derived.Test.YtoadamimfhjoiaaRKeep
import Derived.Test.YtoadamimfhjoiaaLaid
namespace Go.Proofs.Ytoadamimfhjoiaa
open Go.RowKit Go.Sort Go.Shelf

theorem keepT {t nv : Value} {cs C : List Cl} {rs R : List Rw} {ns : List ByteArray} {E : Int} {w : World} (ht : TabAt w t cs rs) (hn : NamesAt w nv ns) (hl : ns.length ≤ 4095) (hE : keepE cs rs ns = E) (hC : keepC cs rs ns = C) (hR : keepR cs rs ns = R) :
    Calls Try.prog 24 #[t, nv] w fun e w' => ∃ pc capc pr capr, e = .returned (.tuple #[.agg #[.slice pc C.length capc, .slice pr R.length capr], .int .i64 E]) ∧ TabAt w' (.agg #[.slice pc C.length capc, .slice pr R.length capr]) C R ∧ Below w.heap.size w w' :=
  (keep_any ht hn (by omega)).mono fun e w' ⟨v', he, h1, hb⟩ => by
    rw [hC, hR] at h1
    rw [hE] at he
    obtain ⟨pc, capc, pr, capr, e1⟩ := h1.at.form rfl rfl
    subst e1
    exact ⟨pc, capc, pr, capr, he, h1.at, hb⟩
theorem rkeepT {t nv : Value} {cs C : List Cl} {rs R : List Rw} {ns : List ByteArray} {E : Int} {w : World} (ht : TabAt w t cs rs) (hn : NamesAt w nv ns) (hl : ns.length ≤ 4095) (hlr : rs.length ≤ 4095) (hE : keepE cs rs ns = E) (hC : keepC cs rs ns = C) (hR : keepR cs rs ns = R) :
    Calls Try.prog 25 #[t, nv] w fun e w' => ∃ pc capc pr capr, e = .returned (.tuple #[.agg #[.slice pc C.length capc, .slice pr R.length capr], .int .i64 E]) ∧ TabAt w' (.agg #[.slice pc C.length capc, .slice pr R.length capr]) C R ∧ Below w.heap.size w w' :=
  (rkeep_any ht hn hl hlr).mono fun e w' ⟨v', he, h1, hb⟩ => by
    rw [hC, hR] at h1
    rw [hE] at he
    obtain ⟨pc, capc, pr, capr, e1⟩ := h1.form rfl rfl
    subst e1
    exact ⟨pc, capc, pr, capr, he, h1, hb⟩
set_option maxRecDepth 100000 in
set_option maxHeartbeats 2000000 in
theorem tableKeeps_any {v : Value} {cs : List Cl} {rs : List Rw} {ns : List ByteArray} {qn : Option Addr} {nn capn : Nat} {w : World} (hv : TabAt w v cs rs) (hcn : nn ≤ capn) (hn : NamesAt w (.slice qn (min nn 40) capn) ns) :
    Calls Try.prog 8 #[v, .slice qn nn capn] w fun e w' => e = .returned (.bool true) ∧ Below w.heap.size w w' := by
  obtain ⟨q, nc, cap', p, n, cap, rfl, hcap, hc⟩ := hv.cuts
  have HC := hid hc
  clear hv hc
  have HLR : Hid ((rs.take 200).length ≤ 4095) := by show _ ≤ _; simp; omega
  have HLN : Hid (ns.length ≤ 4095) := by
    obtain ⟨p', c', hv', -⟩ := id hn
    injection hv' with _ h2 _
    show _ ≤ _
    omega
  generalize rs.take 200 = rs' at *
  have HE := hid ((Below.refl w.heap.size w).alloc (Nat.le_refl _) (.cells #[.slice q nc cap', .slice p n cap] 25))
  have K0 := hid (alloc_block w (.cells #[.slice q nc cap', .slice p n cap] 25))
  have AL := hid (fun (W : World) (o : Obj) => (Below.refl W.heap.size W).alloc (Nat.le_refl _) o)
  generalize hEE : keepE cs rs' ns = E at *
  generalize hCC : keepC cs rs' ns = C at *
  generalize hRR : keepR cs rs' ns = R at *
  have HEE := hid hEE
  have HCC := hid hCC
  have HRR := hid hRR
  clear hEE hCC hRR
  generalize hm : min n 200 = m at *
  have e1 : ∀ x : Int, (x == x) = true := fun x => by simp
  by_cases h40 : 40 < nn
  · have g : (40 : Int) < (nn : Int) := by omega
    rw [Nat.min_eq_right (by omega)] at hn
    have HN := hid hn
    clear hn
    go_enter Try.func8, Try.ntmps8
    go_wp2_with (first
      | (go_at_call 9; refine shown_any.mono ?_; rintro e w1 ⟨rfl, hb1⟩; have HB1 := hid (below_on HE.out hb1); have K1 := hid (block_on K0.out hb1); have k1 := block_cell K1.out; clear hb1)
      | (go_at_call 10; refine (cut_val hcap).mono ?_; rintro e w2 ⟨rfl, hb2⟩; rw [hm]; have HB2 := hid (below_on HB1.out hb2); have K2 := hid (block_on K1.out hb2); clear k1 hb2; have k2 := block_cell K2.out; have f2 := frozen_no K2.out))
    have K5 : Hid (((w2.setCell ⟨w.heap.size, 0, none⟩ (.slice q nc cap')).setCell ⟨w.heap.size, 1, none⟩ (.slice p m cap)).heap[w.heap.size]? = some (.cells #[.slice q nc cap', .slice p m cap] 25 (0, 0))) := Joins.block_setCell (i := 1) (Joins.block_setCell (i := 0) K2.out (.slice q nc cap')) (.slice p m cap)
    have HB5 := hid (below_set (R := w.heap.size) (i := 1) (u := .slice p m cap) (below_set (R := w.heap.size) (i := 0) (u := .slice q nc cap') HB2.out (Nat.le_refl _)) (Nat.le_refl _))
    clear k2 f2 K0 K1 K2 HB1 HB2 HE hm hcap
    generalize ((w2.setCell ⟨w.heap.size, 0, none⟩ (.slice q nc cap')).setCell ⟨w.heap.size, 1, none⟩ (.slice p m cap)) = W3 at *
    have k0 := block_cell K5.out
    go_wp2_with (first | (go_at_call 24; refine (keepT (HC.out.on HB5.out) (HN.out.on HB5.out) HLN.out HEE.out HCC.out HRR.out).mono ?_; rintro e w6 ⟨pc6, capc6, pr6, capr6, rfl, ht6, hb6⟩; have HT6 := hid ht6; have HB6 := hid hb6; have K6 := hid (block_on K5.out hb6); clear k0; have k0 := block_cell K6.out; have lk := lt_of_block K6.out; clear ht6 hb6) | (go_at_call 25; refine (rkeepT (HC.out.on (below_on HB5.out (below_on HB6.out (AL.out _ _)))) (HN.out.on (below_on HB5.out (below_on HB6.out (AL.out _ _)))) HLN.out HLR.out HEE.out HCC.out HRR.out).mono ?_; rintro e w8 ⟨pc8, capc8, pr8, capr8, rfl, ht8, hb8⟩; have HT8 := hid ht8; have HB8 := hid (below_on (AL.out _ _) hb8); have B6 := hid (block_on (alloc_block w6 _) hb8); clear k0 lk; have k6 := block_cell B6.out; have l6 := lt_of_block B6.out; clear ht8 hb8) | (go_at_call 20; refine (rsame_is (HT6.out.on (below_on HB8.out (AL.out _ _))) (HT8.out.on (AL.out _ _)) (sameB_self C R)).mono ?_; rintro e w9 ⟨rfl, hb9⟩; have HB9 := hid (below_on (AL.out _ _) hb9); clear k6 l6; clear hb9))
    go_ret
    exact ⟨rfl, below_on HB5.out (below_on HB6.out (below_on HB8.out HB9.out))⟩
  · have g : ¬ (40 : Int) < (nn : Int) := by omega
    rw [Nat.min_eq_left (by omega)] at hn
    have HN := hid hn
    clear hn
    go_enter Try.func8, Try.ntmps8
    go_wp2_with (first
      | (go_at_call 9; refine shown_any.mono ?_; rintro e w1 ⟨rfl, hb1⟩; have HB1 := hid (below_on HE.out hb1); have K1 := hid (block_on K0.out hb1); have k1 := block_cell K1.out; clear hb1)
      | (go_at_call 10; refine (cut_val hcap).mono ?_; rintro e w2 ⟨rfl, hb2⟩; rw [hm]; have HB2 := hid (below_on HB1.out hb2); have K2 := hid (block_on K1.out hb2); clear k1 hb2; have k2 := block_cell K2.out; have f2 := frozen_no K2.out))
    have K5 : Hid (((w2.setCell ⟨w.heap.size, 0, none⟩ (.slice q nc cap')).setCell ⟨w.heap.size, 1, none⟩ (.slice p m cap)).heap[w.heap.size]? = some (.cells #[.slice q nc cap', .slice p m cap] 25 (0, 0))) := Joins.block_setCell (i := 1) (Joins.block_setCell (i := 0) K2.out (.slice q nc cap')) (.slice p m cap)
    have HB5 := hid (below_set (R := w.heap.size) (i := 1) (u := .slice p m cap) (below_set (R := w.heap.size) (i := 0) (u := .slice q nc cap') HB2.out (Nat.le_refl _)) (Nat.le_refl _))
    clear k2 f2 K0 K1 K2 HB1 HB2 HE hm hcap
    generalize ((w2.setCell ⟨w.heap.size, 0, none⟩ (.slice q nc cap')).setCell ⟨w.heap.size, 1, none⟩ (.slice p m cap)) = W3 at *
    have k0 := block_cell K5.out
    go_wp2_with (first | (go_at_call 24; refine (keepT (HC.out.on HB5.out) (HN.out.on HB5.out) HLN.out HEE.out HCC.out HRR.out).mono ?_; rintro e w6 ⟨pc6, capc6, pr6, capr6, rfl, ht6, hb6⟩; have HT6 := hid ht6; have HB6 := hid hb6; have K6 := hid (block_on K5.out hb6); clear k0; have k0 := block_cell K6.out; have lk := lt_of_block K6.out; clear ht6 hb6) | (go_at_call 25; refine (rkeepT (HC.out.on (below_on HB5.out (below_on HB6.out (AL.out _ _)))) (HN.out.on (below_on HB5.out (below_on HB6.out (AL.out _ _)))) HLN.out HLR.out HEE.out HCC.out HRR.out).mono ?_; rintro e w8 ⟨pc8, capc8, pr8, capr8, rfl, ht8, hb8⟩; have HT8 := hid ht8; have HB8 := hid (below_on (AL.out _ _) hb8); have B6 := hid (block_on (alloc_block w6 _) hb8); clear k0 lk; have k6 := block_cell B6.out; have l6 := lt_of_block B6.out; clear ht8 hb8) | (go_at_call 20; refine (rsame_is (HT6.out.on (below_on HB8.out (AL.out _ _))) (HT8.out.on (AL.out _ _)) (sameB_self C R)).mono ?_; rintro e w9 ⟨rfl, hb9⟩; have HB9 := hid (below_on (AL.out _ _) hb9); clear k6 l6; clear hb9))
    go_ret
    exact ⟨rfl, below_on HB5.out (below_on HB6.out (below_on HB8.out HB9.out))⟩
end Go.Proofs.Ytoadamimfhjoiaa
