/-
  What might of package hints returns, for any node.
-/
import Derived.Test.YtmkilckoeaekkaaQHMight
namespace Go.Proofs.Ytmkilckoeaekkaa
open Go.RowKit Go.Sort Go.Maps Go.Shelf

section
variable {w : World} {m C : Nat} {x : Ix} {nm : ByteArray} {q : Nd} {l : List Int} {Q : Nat → Prop} {v2 : Value} {may : List Bool}
theorem of_b {s : ByteArray} {F : F256} (hs : s.size ≤ 562949953421312) (hF : partB s = F) (w : World) : Calls Try.prog 36 #[.string s] w fun e w' => e = .returned (B4 F) ∧ Below w.heap.size w w' := of_is (by omega) hF w
theorem Fm.quiet {W : World} {g : ByteArray → F256} (h : Fm W m C g) {s : ByteArray} (hs : s.size ≤ maxLen) : ∀ d os, (Instr.lookup 70 (mp m) (.string s) false).run Try.prog (grow (redrawn W d) os) = .ok (B4 (g s)) (grow (redrawn W d) os) := fun d os => (h.kp (T := fun _ => False) (Kp.of (below_regrown W d os)) id).look hs
set_option maxRecDepth 100000 in
set_option maxHeartbeats 4000000 in
theorem might_cmp (hm : Fm w m C (x.bits nm)) (hs : q.s.size ≤ maxLen) (hv : q.v.s.size ≤ 562949953421312) (hk : q.kind = 14) : Calls Try.prog 28 #[mp m, .agg (NdC q), v2] w (MightP w x nm q l may) := by
  have HB : Hid (Below w.heap.size w (w.alloc (.cells (NdC q) 63))) := (Below.refl _ _).alloc (Nat.le_refl _) _
  have k0 := node_box w q
  have HF := hid (hm.kp (T := fun _ => False) (Kp.of HB.out) id)
  have hz := alloc_block w (.cells (NdC q) 63)
  generalize hW : w.alloc (.cells (NdC q) 63) = w1 at *
  have HW := hid hW
  clear hW hm
  have hlt := lt_of_block hz
  obtain ⟨r, hr⟩ : ∃ r, mayOne KK x nm may (q.q l) = r := ⟨_, rfl⟩
  unfold MightP
  rw [hr]
  have hr' := hr
  unfold mayOne at hr'
  rw [if_neg (show ¬ (q.q l).kind = KK.and_ by rw [show (q.q l).kind = q.kind from rfl, hk]; decide), if_neg (show ¬ (q.q l).kind = KK.or_ by rw [show (q.q l).kind = q.kind from rfl, hk]; decide), if_pos (show (q.q l).kind = KK.cmp from hk)] at hr'
  obtain ⟨kind, s, how, a, b, v, lv, nv, gv⟩ := q
  obtain ⟨vk, vn, vs, h0, h1, h2, h3, h4, h5, h6, h7⟩ := v
  simp only at hk hs hv
  subst hk
  simp only [NdC] at k0 HW HB hz ⊢
  by_cases e1 : how = 1
  · by_cases e2 : vk = 2
    · rw [if_pos (show (Nd.q ⟨14, s, how, a, b, ⟨vk, vn, vs, h0, h1, h2, h3, h4, h5, h6, h7⟩, lv, nv, gv⟩ l).how = KK.eq ∧ (Nd.q ⟨14, s, how, a, b, ⟨vk, vn, vs, h0, h1, h2, h3, h4, h5, h6, h7⟩, lv, nv, gv⟩ l).vk = KK.str from ⟨e1, e2⟩)] at hr'
      subst e1 e2
      obtain ⟨G, hG⟩ : ∃ G, wholeB vs = G := ⟨_, rfl⟩
      obtain ⟨J, hJ⟩ : ∃ J, x.bits nm s = J := ⟨_, rfl⟩
      have hw : wit G J = r := by rw [← hG, ← hJ]; exact hr'
      have q1 := HF.out.quiet hs
      rw [hJ] at q1
      have HG := hid hG
      have HWi := hid hw
      have HV := hid hv
      have q0 := quiet_box hz k0
      clear hr hr' hG hJ hw hv hs HF
      go_enter Try.func28, Try.ntmps28
      go_upto_region 1 with fail
      rw [HW.out]
      go_upto_region 7 with fail
      clear k0 hz
      refine wp_region_quiet_below (by kernel_rfl) (by kernel_rfl) ?_
      repeat (go_big_quiet_step (first
        | (go_at_call 31; exact Calls.regrown_of (whole_b HV.out HG.out _))
        | (go_at_call 35; exact Calls.regrown_of (within_is HWi.out _))))
      refine wpQuiet_nil ?_
      intro _ hw'
      obtain ⟨⟨dq, osq⟩, hw''⟩ := hw'
      subst hw''
      go_wp2
      go_ret
      exact ⟨rfl, below_on HB.out (below_regrown w1 dq osq)⟩
    · rw [if_neg (fun h => e2 h.2)] at hr'
      subst hr' e1
      have e2d : decide (vk = 2) = false := by simp [e2]
      have e2a : (vk == 2) = false := by simp [e2]
      have e2b : (vk != 2) = true := by simp [e2]
      have e2c : decide (vk ≠ 2) = true := by simp [e2]
      clear hr HF hs hv
      have q0 := quiet_box hz k0
      go_enter Try.func28, Try.ntmps28
      go_upto_region 1 with fail
      rw [HW.out]
      go_upto_region 7 with fail
      clear k0 hz
      refine wp_region_quiet_below (by kernel_rfl) (by kernel_rfl) ?_
      repeat (go_big_quiet_step (fail))
      refine wpQuiet_nil ?_
      intro _ hw'
      obtain ⟨⟨dq, osq⟩, hw''⟩ := hw'
      subst hw''
      go_wp2
      go_ret
      exact ⟨rfl, below_on HB.out (below_regrown w1 dq osq)⟩
  · rw [if_neg (fun h => e1 h.1)] at hr'
    subst hr'
    have e2d : decide (how = 1) = false := by simp [e1]
    have e2a : (how == 1) = false := by simp [e1]
    have e2b : (how != 1) = true := by simp [e1]
    have e2c : decide (how ≠ 1) = true := by simp [e1]
    clear hr HF hs hv
    have q0 := quiet_box hz k0
    go_enter Try.func28, Try.ntmps28
    go_upto_region 1 with fail
    rw [HW.out]
    go_upto_region 7 with fail
    clear k0 hz
    refine wp_region_quiet_below (by kernel_rfl) (by kernel_rfl) ?_
    repeat (go_big_quiet_step (fail))
    refine wpQuiet_nil ?_
    intro _ hw'
    obtain ⟨⟨dq, osq⟩, hw''⟩ := hw'
    subst hw''
    go_wp2
    go_ret
    exact ⟨rfl, below_on HB.out (below_regrown w1 dq osq)⟩
end
end Go.Proofs.Ytmkilckoeaekkaa
