/-
  What Go's slices.Concat returns of two slices of rows.
-/
import Derived.Shelf.Spec.SlicesGrow
import Derived.Test.YtoadamimfhjoiaaPlaces
namespace Go.Proofs
open Go.Shelf
def Try.growR_ren : Go.Shelf.Ren := ⟨fun | 4 => 53 | n => n, fun | 22 => 23 | 25 => 35 | 3 => 3 | 4 => 4 | 9 => 9 | 20 => 20 | 0 => 0 | n => n, fun | n => n⟩
theorem Try.growR : Go.Proofs.Lays8.n4 Try.prog Try.growR_ren := {
  mixed := by kernel_rfl
  f4 := ⟨Try.f53.name, by decide, Try.func53.trans (congrArg some (by kernel_rfl))⟩
  t0 := Try.underlying0
  a0 := Try.isAgg0
  z0 := Try.sizeOf0
  v0 := Try.zeroValue0
  t3 := Try.underlying3
  a3 := Try.isAgg3
  z3 := Try.sizeOf3
  v3 := Try.zeroValue3
  t4 := Try.underlying4
  a4 := Try.isAgg4
  z4 := Try.sizeOf4
  v4 := Try.zeroValue4
  t9 := Try.underlying9
  a9 := Try.isAgg9
  z9 := Try.sizeOf9
  v9 := Try.zeroValue9
  t20 := Try.underlying20
  a20 := Try.isAgg20
  z20 := Try.sizeOf20
  v20 := Try.zeroValue20
  t22 := Try.underlying23
  a22 := Try.isAgg23
  z22 := Try.sizeOf23
  v22 := Try.zeroValue23 }
end Go.Proofs
namespace Go.Proofs.Ytoadamimfhjoiaa
open Go.RowKit Go.Sort Go.Shelf

theorem grow_any {n : Nat} {w : World} (hn : n ≤ 8192) :
    Calls Try.prog 53 #[.slice none 0 0, .int .i64 (n : Int)] w fun e w' => ∃ v', e = .returned v' ∧ Own one 1 35 w.heap.size w' v' [] ∧ Below w.heap.size w w' := by
  by_cases h0 : n = 0
  · subst h0
    refine Calls.mono (show Calls Try.prog 53 _ _ _ from Any8.slices_Grow_room Try.growR none 0 0 0 w (Nat.le_refl _) (by omega) (by omega) (Nat.le_refl _)) ?_
    rintro e w' ⟨he, rfl⟩
    exact ⟨_, he, Own.nil _ _ _ _ _, Below.refl _ _⟩
  · obtain ⟨i, hi, hz0, hz1, hz2⟩ := info_parts info35
    refine Calls.mono (show Calls Try.prog 53 _ _ _ from Any8.slices_Grow_grow Try.growR i _ hi hz0 (by rw [hz1]; omega) none 0 0 n [] w (Nat.le_refl _) (by omega) (by rw [hz2]; omega) (by omega) (by simp) (fun _ => rfl) (fun a h => by cases h)) ?_
    rintro e w' ⟨he, rfl⟩
    refine ⟨_, he, ?_, (Below.refl _ _).drew.alloc (Nat.le_refl _) _⟩
    have hge := grownCap_ge w (0 + n) 0 35
    have hle := grownCap_le_maxLen w (0 + n) 0 35 (by unfold maxLen; omega)
    show World.ownsRow _ _ _ _ _ _ _
    refine ⟨by simp, .inr ⟨w.heap.size, _, _, rfl, Nat.le_refl _, heap_alloc_new w.drew _, Nat.zero_le _, hle, ?_, by simp⟩⟩
    have hz : (Value.slice none 0 0).cells.size = 1 := rfl
    simp only [Array.size_append, size_zeroCells, hz, List.size_toArray, List.length_nil]
    show _ = grownCap w (0 + n) 0 35 * 1
    have e : grownCap w (0 + n) 0 (Try.growR_ren.t 25) = grownCap w (0 + n) 0 35 := rfl
    rw [e]
    omega
theorem heads_one {Q : Nat → Prop} {w : World} {hs : List Value} {rs : List Rw} (h : HeadsIn Q w hs rs) : ∀ y ∈ hs, ∀ c ∈ one y, c.oneCell' = true := by
  intro y hy c hc
  simp [one] at hc
  subst hc
  obtain ⟨i, hi⟩ := List.getElem?_of_mem hy
  have hl : i < hs.length := (List.getElem?_eq_some_iff.1 hi).1
  have hl' : i < rs.length := by rw [← h.1]; exact hl
  exact slice_one (h.2 i c _ hi (List.getElem?_eq_getElem hl'))
theorem heads_append {Q : Nat → Prop} {w : World} {hs ks : List Value} {rs qs : List Rw} (h : HeadsIn Q w hs rs) (k : HeadsIn Q w ks qs) : HeadsIn Q w (hs ++ ks) (rs ++ qs) := by
  refine ⟨by simp [h.1, k.1], fun j x r hx hr => ?_⟩
  by_cases hj : j < hs.length
  · rw [List.getElem?_append_left hj] at hx
    rw [List.getElem?_append_left (by rw [← h.1]; exact hj)] at hr
    exact h.2 j x r hx hr
  · rw [List.getElem?_append_right (by omega)] at hx
    rw [List.getElem?_append_right (by rw [← h.1]; omega), ← h.1] at hr
    exact k.2 _ x r hx hr
set_option maxHeartbeats 2000000 in
theorem concat_any {u v : Value} {rs qs : List Rw} {B : Nat} {w : World} (hblk : w.heap[B]? = some (.cells #[u, v] 23 (0, 0))) (hu : RowsAt w u rs) (hv : RowsAt w v qs) (hl : rs.length + qs.length ≤ 4096) :
    Calls Try.prog 44 #[.slice (some ⟨B, 0, none⟩) 2 2] w fun e w' => ∃ v', e = .returned v' ∧ RowsAt w' v' (rs ++ qs) ∧ Below w.heap.size w w' := by
  obtain ⟨hs, hsl, hh⟩ := hu
  obtain ⟨ks, ksl, kh⟩ := hv
  have hl1 : hs.length + ks.length ≤ 4096 := by rw [hh.1, kh.1]; exact hl
  have HS := hid hsl
  have KS := hid ksl
  have HH := hid hh
  have KH := hid kh
  obtain ⟨pu, cu, rfl, -⟩ := hsl
  obtain ⟨pv, cv, rfl, -⟩ := ksl
  have KB := hid hblk
  have kb := block_cell hblk
  clear hblk hh kh hl
  have HL1 := hid hl1
  generalize hn : hs.length = n at *
  generalize hm : ks.length = m at *
  have HN := hid hn
  have HM := hid hm
  clear hn hm
  go_enter Try.func44, Try.ntmps44
  go_wp2
  refine wp_loop_rounds 3 ?_
  rw [rounds_succ]
  go_wp2
  rw [rounds_succ]
  go_wp2
  rw [rounds_succ]
  have hG := hid (fun W : World => grow_any (n := n + m) (w := W) (by omega))
  go_wp2_with (first | (go_at_call 53; refine (hG.out _).mono ?_; rintro e w1 ⟨v1, rfl, hown, hb1⟩; have HO1 := hid hown; have HB1 := hid hb1; have K1 := hid (block_on KB.out hb1); have k1 := block_cell K1.out; clear hown hb1))
  clear hG
  refine wp_loop_rounds 3 ?_
  rw [rounds_succ]
  go_wp2_with (at_builtin; refine app_any elem35 one_len (heads_one HH.out) rfl _ _ rfl rfl HO1.out rfl (SlAt.on HS.out HB1.out) (small1 (by simp; rw [HN.out]; omega)) HB1.out.size ?_; intro v2 w2 hown2 hb2; have HO2 := hid hown2; have HB2 := hid (HB1.out.trans hb2); have K2 := hid ((hb2.block B (lt_of_block KB.out)).trans K1.out); have k2 := block_cell K2.out; clear hown2 hb2)
  rw [rounds_succ]
  go_wp2_with (at_builtin; refine app_any elem35 one_len (heads_one KH.out) rfl _ _ rfl rfl HO2.out rfl (SlAt.on KS.out HB2.out) (small1 (by simp; rw [HN.out, HM.out]; omega)) HB2.out.size ?_; intro v3 w3 hown3 hb3; have HO3 := hid hown3; have HB3 := hid (HB2.out.trans hb3); clear hown3 hb3)
  rw [rounds_succ]
  go_wp2
  go_ret
  rw [List.nil_append] at HO3
  exact ⟨_, rfl, ⟨hs ++ ks, (Own.sl HO3.out one_len (small1 (by simp; rw [HN.out, HM.out]; omega))).imp (fun _ _ => trivial), heads_append (HH.out.on HB3.out) (KH.out.on HB3.out)⟩, HB3.out⟩
end Go.Proofs.Ytoadamimfhjoiaa
