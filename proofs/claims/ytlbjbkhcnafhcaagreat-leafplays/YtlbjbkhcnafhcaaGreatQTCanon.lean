/-
  table.Canon, its rows told as blocks that may be written.
-/
import Derived.Test.YtlbjbkhcnafhcaaGreatP42LRefS
namespace Go.Proofs.YtlbjbkhcnafhcaaGreat
open Go.RowKit Go.Sort Go.Shelf Go.Maps

set_option maxHeartbeats 1000000 in
theorem canon_t {v : Value} {cs : List Cl} {rs : List Rw} {w : World} (hv : TabAt w v cs rs) :
    Calls Tryz.prog 36 #[v] w fun e w' => ∃ v', e = .returned v' ∧ TabY (fun b => w.heap.size ≤ b) w' v' cs (sortR rs) ∧ Below w.heap.size w w' := by
  obtain ⟨c, rv, rfl, hc, hr⟩ := hv
  have eg : ∀ args w, (callFunc 54 args).run Tryz.prog w = .ok (.enter 54 args) w := enters_of Tryz.func54 (by kernel_rfl) rfl
  have HC := hid hc
  have HR := hid hr
  obtain ⟨pc, capc, rfl, -⟩ := hc
  obtain ⟨hs, ⟨pr, capr, rfl, -⟩, -⟩ := hr
  generalize cs.length = nc at *
  generalize hs.length = nr at *
  have HA : Hid (∀ (W0 W : World) (h : Value) (r : Rw), r ∈ rs → Below W0.heap.size W0 W → RowAt W h r → Calls Tryz.prog 54 (#[h] ++ #[]) W fun e w' => ∃ v', e = .returned v' ∧ RowIn (ty36 (fun b => W.heap.size ≤ b) w') w' v' (id r) ∧ Below W.heap.size W w') :=
    fun W0 W h r _ _ hr => (RN.cloneK_any (P := fun b => W.heap.size ≤ b) hr (fun _ h => h)).mono fun e w' ⟨p, c, he, h1, h2⟩ => ⟨_, he, h1, h2⟩
  go_enter Tryz.func36, Tryz.ntmps36
  go_wp2_with fail
  have K0 := hid (block_on (alloc_block w (.cells #[.slice pc nc capc, .slice pr nr capr] 44)) ((Below.refl _ _).alloc (Nat.le_refl _) (.cells #[.slice none 0 0, .slice none 0 0] 44)))
  have K1 := hid (alloc_blk2 w (.cells #[.slice pc nc capc, .slice pr nr capr] 44) (.cells #[.slice none 0 0, .slice none 0 0] 44))
  have HB := hid (((Below.refl w.heap.size w).alloc (Nat.le_refl _) (.cells #[.slice pc nc capc, .slice pr nr capr] 44)).alloc (by simp) (.cells #[.slice none 0 0, .slice none 0 0] 44))
  generalize ((w.alloc (.cells #[.slice pc nc capc, .slice pr nr capr] 44)).alloc (.cells #[.slice none 0 0, .slice none 0 0] 44)) = W at *
  have k0 := block_cell K0.out
  have k1 := block_cell K1.out
  have f1 := frozen_no K1.out
  go_region_with (first | (go_at_call 45; refine (cloneC_any (HC.out.on (by first | exact HB.out | exact HB.out.drew))).mono ?_; rintro e w1 ⟨v1, rfl, hc1, hb1⟩; have HC1 := hid hc1; have HB1 : Hid (Below W.heap.size W w1) := (by first | exact hb1 | exact (Below.refl _ _).drew.trans hb1); have K01 := hid (block_on K0.out HB1.out); have K11 := hid (block_on K1.out HB1.out); have k01 := block_cell K01.out; clear hc1 hb1) | (go_at_call 63; refine (inOrder_t HC1.out (HR.out.on (below_on HB.out HB1.out)) eg (HA.out _)).mono ?_; rintro e w2 ⟨v2, rfl, ht2, hb2⟩; have HT2 := hid ht2; have HB2 := hid hb2; have K12 := hid (block_on K11.out HB2.out); have k12 := block_cell K12.out; have f12 := frozen_no K12.out; obtain ⟨c2, r2, rfl, ⟨pc2, capc2, rfl, -⟩, hs2, ⟨pr2, capr2, rfl, -⟩, -⟩ := ht2; clear hb2))
  all_goals
    have l1 := lt_of_block K1.out
    have l2 := HB1.out.size
    clear k0 k1 f1 k01 k12 f12
    go_wp2
    refine bodyPost_ret (v := .agg #[.slice pc2 cs.length capc2, .slice pr2 hs2.length capr2]) ?hv rfl ⟨_, rfl, ?ht, ?hb⟩
    case hv =>
      have KF := Joins.block_setCell (i := 1) (Joins.block_setCell (i := 0) K12.out (.slice pc2 cs.length capc2)) (.slice pr2 hs2.length capr2)
      generalize ((w2.setCell ⟨w.heap.size + 1, 0, none⟩ (.slice pc2 cs.length capc2)).setCell ⟨w.heap.size + 1, 1, none⟩ (.slice pr2 hs2.length capr2)) = WF at KF ⊢
      have kcf := block_cell KF
      clear KF
      simp [results, Tryz.results36, go_sem, kcf]
    case hb => exact below_set (below_set (below_on (below_on HB.out HB1.out) HB2.out) (by omega)) (by omega)
    case ht =>
      rw [List.map_id] at HT2
      exact (TabY.set (fun b hb => by rcases hb with hb | hb <;> (have : W.heap.size ≤ b := (by first | exact hb | exact Nat.le_trans l2 hb); omega)) (TabY.set (fun b hb => by rcases hb with hb | hb <;> (have : W.heap.size ≤ b := (by first | exact hb | exact Nat.le_trans l2 hb); omega)) HT2.out)).imp (fun b hb => by rcases hb with hb | hb <;> (have : W.heap.size ≤ b := (by first | exact hb | exact Nat.le_trans l2 hb); omega))
end Go.Proofs.YtlbjbkhcnafhcaaGreat
