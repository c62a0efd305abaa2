/-
  What might of package hints returns, for any node.
-/
import Derived.Test.YtmkilckoeaekkaaQHMight2
namespace Go.Proofs.Ytmkilckoeaekkaa
open Go.RowKit Go.Sort Go.Maps Go.Shelf

section
variable {w : World} {m C : Nat} {x : Ix} {nm : ByteArray} {q : Nd} {l : List Int} {Q : Nat → Prop} {v2 : Value} {may : List Bool}
set_option maxRecDepth 100000 in
set_option maxHeartbeats 4000000 in
theorem might_has (hm : Fm w m C (x.bits nm)) (hs : q.s.size ≤ maxLen) (hv : q.v.s.size ≤ 562949953421312) (hk : q.kind = 15) : Calls Try.prog 28 #[mp m, .agg (NdC q), v2] w (MightP w x nm q l may) := by
  have HB : Hid (Below w.heap.size w (w.alloc (.cells (NdC q) 63))) := (Below.refl _ _).alloc (Nat.le_refl _) _
  have k0 := node_box w q
  have HF := hid (hm.kp (T := fun _ => False) (Kp.of HB.out) id)
  have hz := alloc_block w (.cells (NdC q) 63)
  generalize hW : w.alloc (.cells (NdC q) 63) = w1 at *
  have HW := hid hW
  clear hW hm
  have hlt := lt_of_block hz
  obtain ⟨r, hr⟩ : ∃ r, mayOne KK x nm may (q.q l) = r := ⟨_, rfl⟩
  unfold MightP
  rw [hr]
  have hr' := hr
  unfold mayOne at hr'
  have hkk : (q.q l).kind = 15 := hk
  rw [if_neg (show ¬ (q.q l).kind = KK.and_ by rw [hkk]; decide), if_neg (show ¬ (q.q l).kind = KK.or_ by rw [hkk]; decide), if_neg (show ¬ (q.q l).kind = KK.cmp by rw [hkk]; decide), if_pos (show (q.q l).kind = KK.has from hk)] at hr'
  obtain ⟨kind, s, how, a, b, v, lv, nv, gv⟩ := q
  obtain ⟨vk, vn, vs, h0, h1, h2, h3, h4, h5, h6, h7⟩ := v
  simp only at hk hs hv
  subst hk
  simp only [NdC] at k0 HW HB hz ⊢
  obtain ⟨G, hG⟩ : ∃ G, partB vs = G := ⟨_, rfl⟩
  obtain ⟨J, hJ⟩ : ∃ J, x.bits nm s = J := ⟨_, rfl⟩
  have hw : wit G J = r := by rw [← hG, ← hJ]; exact hr'
  have q1 := HF.out.quiet hs
  rw [hJ] at q1
  have HG := hid hG
  have HWi := hid hw
  have HV := hid hv
  have q0 := quiet_box hz k0
  clear hr hr' hG hJ hw hv hs HF hkk
  go_enter Try.func28, Try.ntmps28
  go_upto_region 1 with fail
  rw [HW.out]
  go_upto_region 9 with fail
  clear k0 hz
  refine wp_region_quiet_below (by kernel_rfl) (by kernel_rfl) ?_
  repeat (go_big_quiet_step (first
    | (go_at_call 36; exact Calls.regrown_of (of_b HV.out HG.out _))
    | (go_at_call 35; exact Calls.regrown_of (within_is HWi.out _))))
  refine wpQuiet_nil ?_
  intro _ hw'
  obtain ⟨⟨dq, osq⟩, hw''⟩ := hw'
  subst hw''
  go_wp2
  go_ret
  exact ⟨rfl, below_on HB.out (below_regrown w1 dq osq)⟩
set_option maxRecDepth 100000 in
set_option maxHeartbeats 4000000 in
theorem might_oth (h11 : ¬ q.kind = 11) (h12 : ¬ q.kind = 12) (h14 : ¬ q.kind = 14) (h15 : ¬ q.kind = 15) : Calls Try.prog 28 #[mp m, .agg (NdC q), v2] w (MightP w x nm q l may) := by
  have HB : Hid (Below w.heap.size w (w.alloc (.cells (NdC q) 63))) := (Below.refl _ _).alloc (Nat.le_refl _) _
  have k0 := node_box w q
  have hz := alloc_block w (.cells (NdC q) 63)
  generalize hW : w.alloc (.cells (NdC q) 63) = w1 at *
  have HW := hid hW
  clear hW
  have hlt := lt_of_block hz
  have hr : mayOne KK x nm may (q.q l) = true := by
    unfold mayOne
    rw [if_neg (show ¬ (q.q l).kind = KK.and_ from h11), if_neg (show ¬ (q.q l).kind = KK.or_ from h12), if_neg (show ¬ (q.q l).kind = KK.cmp from h14), if_neg (show ¬ (q.q l).kind = KK.has from h15)]
  unfold MightP
  rw [hr]
  clear hr hz
  obtain ⟨kind, s, how, a, b, v, lv, nv, gv⟩ := q
  simp only at h11 h12 h14 h15
  simp only [NdC] at k0 HW HB ⊢
  go_enter Try.func28, Try.ntmps28
  go_upto_region 1 with fail
  rw [HW.out]
  go_wp2
  go_ret
  exact ⟨rfl, HB.out⟩
theorem might_any {g cap : Nat} (hm : Fm w m C (x.bits nm)) (hs : q.s.size ≤ maxLen) (hv : q.v.s.size ≤ 562949953421312) (hl : SlAt Q int1 1 w q.lv l) (hb : Bl w g may) : Calls Try.prog 28 #[mp m, .agg (NdC q), .slice (some ⟨g, 0, none⟩) may.length cap] w (MightP w x nm q l may) := by
  by_cases h11 : q.kind = 11
  · exact might_and hl hb h11
  · by_cases h12 : q.kind = 12
    · exact might_or hl hb h12
    · by_cases h14 : q.kind = 14
      · exact might_cmp hm hs hv h14
      · by_cases h15 : q.kind = 15
        · exact might_has hm hs hv h15
        · exact might_oth h11 h12 h14 h15
end
end Go.Proofs.Ytmkilckoeaekkaa
