/-
  table.Canon, its rows' heads told as a block that may be written.
-/
import Derived.Test.YtcidijjbcebcbaaKI01
namespace Go.Proofs.Ytcidijjbcebcbaa.TN
open Go.RowKit Go.Sort Go.Shelf

set_option maxHeartbeats 1000000 in
theorem canon_w {v : Value} {cs : List Cl} {rs : List Rw} {w : World} (hv : TabAt w v cs rs) :
    Calls Try.prog 60 #[v] w fun e w' => ∃ v', e = .returned v' ∧ TabW (fun b => w.heap.size ≤ b) w.heap.size w' v' cs (sortR rs) ∧ Below w.heap.size w w' := by
  obtain ⟨c, rv, rfl, hc, hr⟩ := hv
  have eg : ∀ args w, (callFunc 49 args).run Try.prog w = .ok (.enter 49 args) w := enters_of Try.func49 (by kernel_rfl) rfl
  have HC := hid hc
  have HR := hid hr
  obtain ⟨pc, capc, rfl, -⟩ := hc
  obtain ⟨hs, ⟨pr, capr, rfl, -⟩, -⟩ := hr
  generalize cs.length = nc at *
  generalize hs.length = nr at *
  have HA : Hid (∀ (W0 W : World) (h : Value) (r : Rw), r ∈ rs → Below W0.heap.size W0 W → RowAt W h r → Calls Try.prog 49 (#[h] ++ #[]) W fun e w' => ∃ v', e = .returned v' ∧ RowIn (fun b => W.heap.size ≤ b) w' v' (id r) ∧ Below W.heap.size W w') :=
    fun W0 W h r _ _ hr => cloneV_any hr
  go_enter Try.func60, Try.ntmps60
  go_wp2_with fail
  have K0 := hid (block_on (alloc_block w (.cells #[.slice pc nc capc, .slice pr nr capr] 28)) ((Below.refl _ _).alloc (Nat.le_refl _) (.cells #[.slice none 0 0, .slice none 0 0] 28)))
  have K1 := hid (alloc_blk2 w (.cells #[.slice pc nc capc, .slice pr nr capr] 28) (.cells #[.slice none 0 0, .slice none 0 0] 28))
  have HB := hid (((Below.refl w.heap.size w).alloc (Nat.le_refl _) (.cells #[.slice pc nc capc, .slice pr nr capr] 28)).alloc (by simp) (.cells #[.slice none 0 0, .slice none 0 0] 28))
  generalize ((w.alloc (.cells #[.slice pc nc capc, .slice pr nr capr] 28)).alloc (.cells #[.slice none 0 0, .slice none 0 0] 28)) = W at *
  have k0 := block_cell K0.out
  have k1 := block_cell K1.out
  have f1 := frozen_no K1.out
  go_region_with (first | (go_at_call 50; refine (cloneC_any (HC.out.on (by first | exact HB.out | exact HB.out.drew))).mono ?_; rintro e w1 ⟨v1, rfl, hc1, hb1⟩; have HC1 := hid hc1; have HB1 : Hid (Below W.heap.size W w1) := (by first | exact hb1 | exact (Below.refl _ _).drew.trans hb1); have K01 := hid (block_on K0.out HB1.out); have K11 := hid (block_on K1.out HB1.out); have k01 := block_cell K01.out; clear hc1 hb1) | (go_at_call 94; refine (inOrder_w HC1.out (HR.out.on (below_on HB.out HB1.out)) eg (HA.out _)).mono ?_; rintro e w2 ⟨v2, rfl, ht2, hb2⟩; rw [List.map_id] at ht2; have HT2 := hid ht2; have HB2 := hid hb2; have K12 := hid (block_on K11.out HB2.out); have k12 := block_cell K12.out; have f12 := frozen_no K12.out; obtain ⟨pc2, capc2, br2, rfl⟩ := ht2.form; clear hb2))
  all_goals
    have l1 := lt_of_block K1.out
    have l2 := HB1.out.size
    clear k0 k1 f1 k01 k12 f12
    go_wp2
    refine bodyPost_ret (v := .agg #[.slice pc2 cs.length capc2, .slice (some ⟨br2, 0, none⟩) (sortR rs).length (sortR rs).length]) ?hv rfl ⟨_, rfl, ?ht, ?hb⟩
    case hv =>
      have KF := Joins.block_setCell (i := 1) (Joins.block_setCell (i := 0) K12.out (.slice pc2 cs.length capc2)) (.slice (some ⟨br2, 0, none⟩) (sortR rs).length (sortR rs).length)
      generalize ((w2.setCell ⟨w.heap.size + 1, 0, none⟩ (.slice pc2 cs.length capc2)).setCell ⟨w.heap.size + 1, 1, none⟩ (.slice (some ⟨br2, 0, none⟩) (sortR rs).length (sortR rs).length)) = WF at KF ⊢
      have kcf := block_cell KF
      clear KF
      simp [results, Try.results60, go_sem, kcf]
    case hb => exact below_set (below_set (below_on (below_on HB.out HB1.out) HB2.out) (by omega)) (by omega)
    case ht =>
      have h9 : W.heap.size ≤ w1.heap.size := HB1.out.size
      have ht9 := TabW.set (R := w.heap.size + 1) (i := 1) (u := .slice (some ⟨br2, 0, none⟩) (sortR rs).length (sortR rs).length) (fun b hb => by have : W.heap.size ≤ b := hb.1; omega) (by omega) (TabW.set (R := w.heap.size + 1) (i := 0) (u := .slice pc2 cs.length capc2) (fun b hb => by have : W.heap.size ≤ b := hb.1; omega) (by omega) HT2.out)
      exact ht9.imp (fun b hb => by have : W.heap.size ≤ b := hb.1; omega) (by omega)
end Go.Proofs.Ytcidijjbcebcbaa.TN
