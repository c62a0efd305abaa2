/-
  What Go's slices.Concat returns of two slices of rows.
  What table.Canon returns, for every table.
-/
import Derived.Test.YtaccindmjaejdaaPD
import Derived.Test.YtaccindmjaejdaaPE
import Derived.Shelf.Spec.SlicesGrow
namespace Go.Proofs
open Go.Shelf
def Try.growR_ren : Go.Shelf.Ren := ⟨fun | 4 => 80 | n => n, fun | 22 => 23 | 25 => 57 | 3 => 3 | 4 => 4 | 9 => 9 | 20 => 20 | 0 => 0 | n => n, fun | n => n⟩
theorem Try.growR : Go.Proofs.Lays8.n4 Try.prog Try.growR_ren := {
  mixed := by kernel_rfl
  f4 := ⟨Try.f80.name, by decide, Try.func80.trans (congrArg some (by kernel_rfl))⟩
  t0 := Try.underlying0
  a0 := Try.isAgg0
  z0 := Try.sizeOf0
  v0 := Try.zeroValue0
  t3 := Try.underlying3
  a3 := Try.isAgg3
  z3 := Try.sizeOf3
  v3 := Try.zeroValue3
  t4 := Try.underlying4
  a4 := Try.isAgg4
  z4 := Try.sizeOf4
  v4 := Try.zeroValue4
  t9 := Try.underlying9
  a9 := Try.isAgg9
  z9 := Try.sizeOf9
  v9 := Try.zeroValue9
  t20 := Try.underlying20
  a20 := Try.isAgg20
  z20 := Try.sizeOf20
  v20 := Try.zeroValue20
  t22 := Try.underlying23
  a22 := Try.isAgg23
  z22 := Try.sizeOf23
  v22 := Try.zeroValue23 }
end Go.Proofs
namespace Go.Proofs.Ytaccindmjaejdaa
open Go.RowKit Go.Sort Go.Shelf

theorem grow_any {n : Nat} {w : World} (hn : n ≤ 8192) :
    Calls Try.prog 80 #[.slice none 0 0, .int .i64 (n : Int)] w fun e w' => ∃ v', e = .returned v' ∧ Own one 1 57 w.heap.size w' v' [] ∧ Below w.heap.size w w' := by
  by_cases h0 : n = 0
  · subst h0
    refine Calls.mono (show Calls Try.prog 80 _ _ _ from Any8.slices_Grow_room Try.growR none 0 0 0 w (Nat.le_refl _) (by omega) (by omega) (Nat.le_refl _)) ?_
    rintro e w' ⟨he, rfl⟩
    exact ⟨_, he, Own.nil _ _ _ _ _, Below.refl _ _⟩
  · obtain ⟨i, hi, hz0, hz1, hz2⟩ := info_parts info35
    refine Calls.mono (show Calls Try.prog 80 _ _ _ from Any8.slices_Grow_grow Try.growR i _ hi hz0 (by rw [hz1]; omega) none 0 0 n [] w (Nat.le_refl _) (by omega) (by rw [hz2]; omega) (by omega) (by simp) (fun _ => rfl) (fun a h => by cases h)) ?_
    rintro e w' ⟨he, rfl⟩
    refine ⟨_, he, ?_, (Below.refl _ _).drew.alloc (Nat.le_refl _) _⟩
    have hge := grownCap_ge w (0 + n) 0 57
    have hle := grownCap_le_maxLen w (0 + n) 0 57 (by unfold maxLen; omega)
    show World.ownsRow _ _ _ _ _ _ _
    refine ⟨by simp, .inr ⟨w.heap.size, _, _, rfl, Nat.le_refl _, heap_alloc_new w.drew _, Nat.zero_le _, hle, ?_, by simp⟩⟩
    have hz : (Value.slice none 0 0).cells.size = 1 := rfl
    simp only [Array.size_append, size_zeroCells, hz, List.size_toArray, List.length_nil]
    show _ = grownCap w (0 + n) 0 57 * 1
    have e : grownCap w (0 + n) 0 (Try.growR_ren.t 25) = grownCap w (0 + n) 0 57 := rfl
    rw [e]
    omega
theorem heads_one {Q : Nat → Prop} {w : World} {hs : List Value} {rs : List Rw} (h : HeadsIn Q w hs rs) : ∀ y ∈ hs, ∀ c ∈ one y, c.oneCell' = true := by
  intro y hy c hc
  simp [one] at hc
  subst hc
  obtain ⟨i, hi⟩ := List.getElem?_of_mem hy
  have hl : i < hs.length := (List.getElem?_eq_some_iff.1 hi).1
  have hl' : i < rs.length := by rw [← h.1]; exact hl
  exact slice_one (h.2 i c _ hi (List.getElem?_eq_getElem hl'))
theorem heads_append {Q : Nat → Prop} {w : World} {hs ks : List Value} {rs qs : List Rw} (h : HeadsIn Q w hs rs) (k : HeadsIn Q w ks qs) : HeadsIn Q w (hs ++ ks) (rs ++ qs) := by
  refine ⟨by simp [h.1, k.1], fun j x r hx hr => ?_⟩
  by_cases hj : j < hs.length
  · rw [List.getElem?_append_left hj] at hx
    rw [List.getElem?_append_left (by rw [← h.1]; exact hj)] at hr
    exact h.2 j x r hx hr
  · rw [List.getElem?_append_right (by omega)] at hx
    rw [List.getElem?_append_right (by rw [← h.1]; omega), ← h.1] at hr
    exact k.2 _ x r hx hr
set_option maxHeartbeats 2000000 in
theorem concat_any {u v : Value} {rs qs : List Rw} {B : Nat} {w : World} (hblk : w.heap[B]? = some (.cells #[u, v] 23 (0, 0))) (hu : RowsAt w u rs) (hv : RowsAt w v qs) (hl : rs.length + qs.length ≤ 4096) :
    Calls Try.prog 47 #[.slice (some ⟨B, 0, none⟩) 2 2] w fun e w' => ∃ v', e = .returned v' ∧ RowsAt w' v' (rs ++ qs) ∧ Below w.heap.size w w' := by
  obtain ⟨hs, hsl, hh⟩ := hu
  obtain ⟨ks, ksl, kh⟩ := hv
  have hl1 : hs.length + ks.length ≤ 4096 := by rw [hh.1, kh.1]; exact hl
  have HS := hid hsl
  have KS := hid ksl
  have HH := hid hh
  have KH := hid kh
  obtain ⟨pu, cu, rfl, -⟩ := hsl
  obtain ⟨pv, cv, rfl, -⟩ := ksl
  have KB := hid hblk
  have kb := block_cell hblk
  clear hblk hh kh hl
  have HL1 := hid hl1
  generalize hn : hs.length = n at *
  generalize hm : ks.length = m at *
  have HN := hid hn
  have HM := hid hm
  clear hn hm
  go_enter Try.func47, Try.ntmps47
  go_wp2
  refine wp_loop_rounds 3 ?_
  rw [rounds_succ]
  go_wp2
  rw [rounds_succ]
  go_wp2
  rw [rounds_succ]
  have hG := hid (fun W : World => grow_any (n := n + m) (w := W) (by omega))
  go_wp2_with (first | (go_at_call 80; refine (hG.out _).mono ?_; rintro e w1 ⟨v1, rfl, hown, hb1⟩; have HO1 := hid hown; have HB1 := hid hb1; have K1 := hid (block_on KB.out hb1); have k1 := block_cell K1.out; clear hown hb1))
  clear hG
  refine wp_loop_rounds 3 ?_
  rw [rounds_succ]
  go_wp2_with (at_builtin; refine app_any elem35 one_len (heads_one HH.out) rfl _ _ rfl rfl HO1.out rfl (SlAt.on HS.out HB1.out) (small1 (by simp; rw [HN.out]; omega)) HB1.out.size ?_; intro v2 w2 hown2 hb2; have HO2 := hid hown2; have HB2 := hid (HB1.out.trans hb2); have K2 := hid ((hb2.block B (lt_of_block KB.out)).trans K1.out); have k2 := block_cell K2.out; clear hown2 hb2)
  rw [rounds_succ]
  go_wp2_with (at_builtin; refine app_any elem35 one_len (heads_one KH.out) rfl _ _ rfl rfl HO2.out rfl (SlAt.on KS.out HB2.out) (small1 (by simp; rw [HN.out, HM.out]; omega)) HB2.out.size ?_; intro v3 w3 hown3 hb3; have HO3 := hid hown3; have HB3 := hid (HB2.out.trans hb3); clear hown3 hb3)
  rw [rounds_succ]
  go_wp2
  go_ret
  rw [List.nil_append] at HO3
  exact ⟨_, rfl, ⟨hs ++ ks, (Own.sl HO3.out one_len (small1 (by simp; rw [HN.out, HM.out]; omega))).imp (fun _ _ => trivial), heads_append (HH.out.on HB3.out) (KH.out.on HB3.out)⟩, HB3.out⟩
end Go.Proofs.Ytaccindmjaejdaa
namespace Go.Proofs.Ytaccindmjaejdaa
open Go.RowKit Go.Sort Go.Shelf

theorem alloc_blk2 (w : World) (x y : Obj) : ((w.alloc x).alloc y).heap[w.heap.size + 1]? = some y := by
  have h := alloc_block (w.alloc x) y
  rwa [World.size_alloc] at h
set_option maxHeartbeats 1000000 in
theorem canon_any {v : Value} {cs : List Cl} {rs : List Rw} {w : World} (hv : TabAt w v cs rs) :
    Calls Try.prog 31 #[v] w fun e w' => ∃ v', e = .returned v' ∧ TabIn (fun b => w.heap.size ≤ b) w' v' cs (sortR rs) ∧ Below w.heap.size w w' := by
  obtain ⟨c, rv, rfl, hc, hr⟩ := hv
  have eg : ∀ args w, (callFunc 65 args).run Try.prog w = .ok (.enter 65 args) w := enters_of Try.func65 (by kernel_rfl) rfl
  have HC := hid hc
  have HR := hid hr
  obtain ⟨pc, capc, rfl, -⟩ := hc
  obtain ⟨hs, ⟨pr, capr, rfl, -⟩, -⟩ := hr
  generalize cs.length = nc at *
  generalize hs.length = nr at *
  have HA : Hid (∀ (W0 W : World) (h : Value) (r : Rw), r ∈ rs → Below W0.heap.size W0 W → RowAt W h r → Calls Try.prog 65 (#[h] ++ #[]) W fun e w' => ∃ v', e = .returned v' ∧ RowIn (fun b => W.heap.size ≤ b) w' v' (id r) ∧ Below W.heap.size W w') :=
    fun W0 W h r _ _ hr => cloneV_any hr
  go_enter Try.func31, Try.ntmps31
  go_wp2_with fail
  have K0 := hid (block_on (alloc_block w (.cells #[.slice pc nc capc, .slice pr nr capr] 25)) ((Below.refl _ _).alloc (Nat.le_refl _) (.cells #[.slice none 0 0, .slice none 0 0] 25)))
  have K1 := hid (alloc_blk2 w (.cells #[.slice pc nc capc, .slice pr nr capr] 25) (.cells #[.slice none 0 0, .slice none 0 0] 25))
  have HB := hid (((Below.refl w.heap.size w).alloc (Nat.le_refl _) (.cells #[.slice pc nc capc, .slice pr nr capr] 25)).alloc (by simp) (.cells #[.slice none 0 0, .slice none 0 0] 25))
  generalize ((w.alloc (.cells #[.slice pc nc capc, .slice pr nr capr] 25)).alloc (.cells #[.slice none 0 0, .slice none 0 0] 25)) = W at *
  have k0 := block_cell K0.out
  have k1 := block_cell K1.out
  have f1 := frozen_no K1.out
  go_region_with (first | (go_at_call 64; refine (cloneC_any (HC.out.on (by first | exact HB.out | exact HB.out.drew))).mono ?_; rintro e w1 ⟨v1, rfl, hc1, hb1⟩; have HC1 := hid hc1; have HB1 : Hid (Below W.heap.size W w1) := (by first | exact hb1 | exact (Below.refl _ _).drew.trans hb1); have K01 := hid (block_on K0.out HB1.out); have K11 := hid (block_on K1.out HB1.out); have k01 := block_cell K01.out; clear hc1 hb1) | (go_at_call 41; refine (inOrder_any HC1.out (HR.out.on (below_on HB.out HB1.out)) eg (HA.out _)).mono ?_; rintro e w2 ⟨v2, rfl, ht2, hb2⟩; have HT2 := hid ht2; have HB2 := hid hb2; have K12 := hid (block_on K11.out HB2.out); have k12 := block_cell K12.out; have f12 := frozen_no K12.out; obtain ⟨c2, r2, rfl, ⟨pc2, capc2, rfl, -⟩, hs2, ⟨pr2, capr2, rfl, -⟩, -⟩ := ht2; clear hb2))
  all_goals
    have l1 := lt_of_block K1.out
    have l2 := HB1.out.size
    clear k0 k1 f1 k01 k12 f12
    go_wp2
    refine bodyPost_ret (v := .agg #[.slice pc2 cs.length capc2, .slice pr2 hs2.length capr2]) ?hv rfl ⟨_, rfl, ?ht, ?hb⟩
    case hv =>
      have KF := Joins.block_setCell (i := 1) (Joins.block_setCell (i := 0) K12.out (.slice pc2 cs.length capc2)) (.slice pr2 hs2.length capr2)
      generalize ((w2.setCell ⟨w.heap.size + 1, 0, none⟩ (.slice pc2 cs.length capc2)).setCell ⟨w.heap.size + 1, 1, none⟩ (.slice pr2 hs2.length capr2)) = WF at KF ⊢
      have kcf := block_cell KF
      clear KF
      simp [results, Try.results31, go_sem, kcf]
    case hb => exact below_set (below_set (below_on (below_on HB.out HB1.out) HB2.out) (by omega)) (by omega)
    case ht =>
      rw [List.map_id] at HT2
      exact (TabIn.set (fun b hb => by rcases hb with hb | hb <;> (have : W.heap.size ≤ b := (by first | exact hb | exact Nat.le_trans l2 hb); omega)) (TabIn.set (fun b hb => by rcases hb with hb | hb <;> (have : W.heap.size ≤ b := (by first | exact hb | exact Nat.le_trans l2 hb); omega)) HT2.out)).imp (fun b hb => by rcases hb with hb | hb <;> (have : W.heap.size ≤ b := (by first | exact hb | exact Nat.le_trans l2 hb); omega))
end Go.Proofs.Ytaccindmjaejdaa
