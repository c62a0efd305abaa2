/-
  What slices.Concat of three rows of values returns.
-/
import Derived.Test.YtlbjbkhcnafhcaaGreatP23SStep
import Derived.Test.YtlbjbkhcnafhcaaGreatP09Txt
import Derived.Shelf.Spec.SlicesGrow
namespace Go.Proofs
open Go.Shelf
def Tryz.growV_ren : Go.Shelf.Ren := ⟨fun | 4 => 88 | n => n, fun | 22 => 32 | 25 => 40 | 3 => 3 | 4 => 4 | 9 => 9 | 20 => 20 | 0 => 0 | n => n, fun | n => n⟩
theorem Tryz.growV : Go.Proofs.Lays8.n4 Tryz.prog Tryz.growV_ren := {
  mixed := by kernel_rfl
  f4 := ⟨Tryz.f88.name, by decide, Tryz.func88.trans (congrArg some (by kernel_rfl))⟩
  t0 := Tryz.underlying0
  a0 := Tryz.isAgg0
  z0 := Tryz.sizeOf0
  v0 := Tryz.zeroValue0
  t3 := Tryz.underlying3
  a3 := Tryz.isAgg3
  z3 := Tryz.sizeOf3
  v3 := Tryz.zeroValue3
  t4 := Tryz.underlying4
  a4 := Tryz.isAgg4
  z4 := Tryz.sizeOf4
  v4 := Tryz.zeroValue4
  t9 := Tryz.underlying9
  a9 := Tryz.isAgg9
  z9 := Tryz.sizeOf9
  v9 := Tryz.zeroValue9
  t20 := Tryz.underlying20
  a20 := Tryz.isAgg20
  z20 := Tryz.sizeOf20
  v20 := Tryz.zeroValue20
  t22 := Tryz.underlying32
  a22 := Tryz.isAgg32
  z22 := Tryz.sizeOf32
  v22 := Tryz.zeroValue32 }
end Go.Proofs
namespace Go.Proofs.YtlbjbkhcnafhcaaGreat
open Go.RowKit Go.Sort Go.Shelf

theorem small11 {n : Nat} (h : n ≤ 4000000) : n * bsz 11 ≤ 140737488355328 := by unfold bsz; simp; omega
theorem growV_any {n : Nat} {w : World} (hn : n ≤ 4000000) :
    Calls Tryz.prog 88 #[.slice none 0 0, .int .i64 (n : Int)] w fun e w' => ∃ v', e = .returned v' ∧ Own Vl.cells 11 40 w.heap.size w' v' [] ∧ Below w.heap.size w w' := by
  by_cases h0 : n = 0
  · subst h0
    refine Calls.mono (show Calls Tryz.prog 88 _ _ _ from Any8.slices_Grow_room Tryz.growV none 0 0 0 w (Nat.le_refl _) (by omega) (by omega) (Nat.le_refl _)) ?_
    rintro e w' ⟨he, rfl⟩
    exact ⟨_, he, Own.nil _ _ _ _ _, Below.refl _ _⟩
  · obtain ⟨i, hi, hz0, hz1, hz2⟩ := info_parts info48
    refine Calls.mono (show Calls Tryz.prog 88 _ _ _ from Any8.slices_Grow_grow Tryz.growV i _ hi hz0 (by rw [hz1]; omega) none 0 0 n [] w (Nat.le_refl _) (by omega) (by rw [hz2]; omega) (by omega) (by simp) (fun _ => rfl) (fun a h => by cases h)) ?_
    rintro e w' ⟨he, rfl⟩
    refine ⟨_, he, ?_, (Below.refl _ _).drew.alloc (Nat.le_refl _) _⟩
    have hge := grownCap_ge w (0 + n) 0 40
    have hle := grownCap_le_maxLen w (0 + n) 0 40 (by unfold maxLen; omega)
    show World.ownsRow _ _ _ _ _ _ _
    refine ⟨by simp, .inr ⟨w.heap.size, _, _, rfl, Nat.le_refl _, heap_alloc_new w.drew _, Nat.zero_le _, hle, ?_, by simp⟩⟩
    have hz : (V 0 0 ⟨#[]⟩ 0 0 0 0 0 0 0 0).cells.size = 11 := rfl
    simp only [Array.size_append, size_zeroCells, hz, List.size_toArray, List.length_nil]
    show _ = grownCap w (0 + n) 0 40 * 11
    have e : grownCap w (0 + n) 0 (Tryz.growV_ren.t 25) = grownCap w (0 + n) 0 40 := rfl
    rw [e]
    omega
set_option maxRecDepth 100000 in
set_option maxHeartbeats 2000000 in
theorem concatV_any {u v t : Value} {a b c : Rw} {B : Nat} {w : World} (hblk : w.heap[B]? = some (.cells #[u, v, t] 32 (0, 0))) (hu : RowAt w u a) (hv : RowAt w v b) (ht : RowAt w t c) (hl : List.length a + List.length b + List.length c ≤ 4000000) :
    Calls Tryz.prog 62 #[.slice (some ⟨B, 0, none⟩) 3 3] w fun e w' => ∃ v', e = .returned v' ∧ RowIn (ty36 (fun g => w.heap.size ≤ g) w') w' v' (a ++ b ++ c) ∧ Below w.heap.size w w' := by
  have HU := hid hu
  have HV := hid hv
  have HT := hid ht
  obtain ⟨pu, cu, rfl, -⟩ := hu
  obtain ⟨pv, cv, rfl, -⟩ := hv
  obtain ⟨pt, ct, rfl, -⟩ := ht
  have KB := hid hblk
  have kb := block_cell hblk
  clear hblk
  have HL := hid hl
  generalize hn : List.length a = n at *
  generalize hm : List.length b = m at *
  generalize hk : List.length c = k at *
  have HN := hid hn
  have HM := hid hm
  have HK := hid hk
  clear hn hm hk
  go_enter Tryz.func62, Tryz.ntmps62
  go_wp2
  refine wp_loop_rounds 4 ?_
  rw [rounds_succ]
  go_wp2
  rw [rounds_succ]
  go_wp2
  rw [rounds_succ]
  go_wp2
  rw [rounds_succ]
  have hG := hid (fun W : World => growV_any (n := n + m + k) (w := W) (by omega))
  go_wp2_with (first | (go_at_call 88; refine (hG.out _).mono ?_; rintro e w1 ⟨v1, rfl, hown, hb1⟩; have HO1 := hid hown; have HB1 := hid hb1; have K1 := hid (block_on KB.out hb1); have k1 := block_cell K1.out; clear hown hb1))
  clear hG
  refine wp_loop_rounds 4 ?_
  rw [rounds_succ]
  go_wp2_with (at_builtin; refine app_any elem48 vl_len (fun x _ => vl_cells x) rfl _ _ rfl rfl HO1.out rfl (SlAt.on HU.out HB1.out) (small11 (by simp; rw [HN.out]; omega)) HB1.out.size ?_; intro v2 w2 hown2 hb2; have HO2 := hid hown2; have HB2 := hid (HB1.out.trans hb2); have K2 := hid ((hb2.block B (lt_of_block KB.out)).trans K1.out); have k2 := block_cell K2.out; clear hown2 hb2)
  rw [rounds_succ]
  go_wp2_with (at_builtin; refine app_any elem48 vl_len (fun x _ => vl_cells x) rfl _ _ rfl rfl HO2.out rfl (SlAt.on HV.out HB2.out) (small11 (by simp; rw [HN.out, HM.out]; omega)) HB2.out.size ?_; intro v3 w3 hown3 hb3; have HO3 := hid hown3; have HB3 := hid (HB2.out.trans hb3); have K3 := hid ((hb3.block B (lt_of_block KB.out)).trans K2.out); have k3 := block_cell K3.out; clear hown3 hb3)
  rw [rounds_succ]
  go_wp2_with (at_builtin; refine app_any elem48 vl_len (fun x _ => vl_cells x) rfl _ _ rfl rfl HO3.out rfl (SlAt.on HT.out HB3.out) (small11 (by simp; rw [HN.out, HM.out, HK.out]; omega)) HB3.out.size ?_; intro v4 w4 hown4 hb4; have HO4 := hid hown4; have HB4 := hid (HB3.out.trans hb4); clear hown4 hb4)
  rw [rounds_succ]
  go_wp2
  go_ret
  rw [List.nil_append] at HO4
  exact ⟨_, rfl, own_rowT HO4.out (fun _ h => h) (small11 (by simp; rw [HN.out, HM.out, HK.out]; omega)), HB4.out⟩
end Go.Proofs.YtlbjbkhcnafhcaaGreat
