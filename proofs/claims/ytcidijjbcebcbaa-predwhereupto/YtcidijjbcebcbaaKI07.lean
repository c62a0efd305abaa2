/-
  symMerge, where the first stretch is not the longer one; and whole.
-/
import Derived.Test.YtcidijjbcebcbaaKI06
namespace Go.Proofs.Ytcidijjbcebcbaa.SS
open Go.RowKit Go.Joins Go.Sort

set_option maxRecDepth 100000 in
set_option maxHeartbeats 16000000 in
theorem sym_less {enc : Nat → Value} (hE : Sls enc) {g : Nat} {cb : Array Value} (eg : ∀ args w, (callFunc g args).run Try.prog w = .ok (.enter g args) w) {c : Nat → Nat → Int} (hc : Cm c) {B n cap : Nat} (hn : n ≤ 1000000) {s : Nat} (ih : ∀ (a m b : Nat) (f : Nat → Nat) (w : World) (_ : b - a ≤ s) (_ : Cp g cb enc B n c w) (_ : Rf enc B n f w) (_ : a < m) (_ : m < b) (_ : b ≤ n) (_ : Tn n f) (_ : up c f a m) (_ : up c f m b) (_ : tg f a m b), Calls Try.prog 118 #[.slice (some ⟨B, 0, none⟩) n cap, .int .i64 a, .int .i64 m, .int .i64 b, .func (.func g) #[] cb] w fun e w' => e = .returned (.tuple #[]) ∧ Done enc B n c f a b w w')
    {a m b : Nat} {f : Nat → Nat} {w : World} (hs : b - a ≤ s + 1) (hC : Cp g cb enc B n c w) (h : Rf enc B n f w) (ham : a + 1 < m) (hmb : m + 1 < b) (hb : b ≤ n) (ht : Tn n f) (hu1 : up c f a m) (hu2 : up c f m b) (htg : tg f a m b) (hcs : m ≤ (a + b) / 2) : Calls Try.prog 118 #[.slice (some ⟨B, 0, none⟩) n cap, .int .i64 a, .int .i64 m, .int .i64 b, .func (.func g) #[] cb] w fun e w' => e = .returned (.tuple #[]) ∧ Done enc B n c f a b w w' := by
  have H := hid h
  have HE := hid hE
  have HC := hid hC
  have HM := hid hc
  have HT := hid ht
  have HG := hid htg
  have HU1 := hid hu1
  have HU2 := hid hu2
  have HIH := hid ih
  clear h hE hC hc ht htg hu1 hu2 ih
  have nI : (n : Int) ≤ 1000000 := by omega
  have aI : (a : Int) ≤ 1000000 := by omega
  have bI : (b : Int) ≤ 1000000 := by omega
  have mI : (m : Int) ≤ 1000000 := by omega
  have m1 : ((m : Int) - a == 1) = false := by simp; omega
  have m1' : ¬ (m : Int) - a = 1 := by omega
  have m2 : ((b : Int) - m == 1) = false := by simp; omega
  have m2' : ¬ (b : Int) - m = 1 := by omega
  obtain ⟨mid, hmid⟩ : ∃ x, x = (a + b) / 2 := ⟨_, rfl⟩
  rw [← hmid] at hcs
  have HMD := hid hmid
  have md1 : a < mid := by omega
  have md2 : mid < b := by omega
  have md3 : mid + mid ≤ a + b ∧ a + b ≤ mid + mid + 1 := by omega
  have hmI : ((a : Int) + b) / 2 = mid := by omega
  have mmI : (mid : Int) + m ≤ 3000000 := by omega
  obtain ⟨nn, hnn⟩ : ∃ x, x = mid + m := ⟨_, rfl⟩
  have nnI : (mid : Int) + m = nn := by omega
  obtain ⟨pp, hpp⟩ : ∃ x, x + 1 = nn := ⟨nn - 1, by omega⟩
  have ppI : (nn : Int) - 1 = pp := by omega
  have HNN := hid hnn
  have HPP := hid hpp
  clear hmid
  have c1 : ¬ (mid : Int) < m := by omega
  clear hnn hpp
  go_enter Try.func118, Try.ntmps118
  go_upto_region 33 with fail
  go_loopw [20, 21] (fun x y wr => ∃ i j : Nat, x = .int .i64 i ∧ y = .int .i64 j ∧ a ≤ i ∧ i ≤ j ∧ j ≤ m ∧ Hid (a < i → lt c (f (i - 1)) (f (nn - i))) ∧ Hid (j < m → lt c (f (pp - j)) (f j)) ∧ Hid (Rf enc B n f wr) ∧ Hid (Kp (fun b => b = B) w wr)) (fun x y _ => (intOf y - intOf x).toNat)
  case atStart => exact ⟨a, m, rfl, rfl, by omega, by omega, by omega, fun h => by omega, fun h => by omega, H.out, Kp.refl _ _⟩
  case round =>
    obtain ⟨i, j, rfl, rfl, hmi, hij, hjb, HL, HR, HF, HK⟩ := hrel
    by_cases hlt : i < j
    · obtain ⟨h, hh⟩ : ∃ h, h = (i + j) / 2 := ⟨_, rfl⟩
      obtain ⟨ph, hph⟩ : ∃ x, x = pp - h := ⟨_, rfl⟩
      have F1 : m ≤ ph ∧ ph < b ∧ h < m ∧ a ≤ h ∧ ph + h + 1 = nn := by have := HNN.out; have := HPP.out; omega
      have phI : (pp : Int) - ((i : Int) + j) / 2 = ph := by omega
      have hhn : ((i : Int) + j) / 2 < n := by omega
      have phn : (ph : Int) < n := by omega
      have h0 : (0 : Int) ≤ ((i : Int) + j) / 2 := by omega
      have ph0 : (0 : Int) ≤ ph := by omega
      have cx := HF.out.cell (i := ph) (by omega)
      have cy := HF.out.cell (i := h) (by omega)
      have HCa := hid (fun d os => (HC.out.at HK.out).call (HT.out ph (by omega)) (HT.out h (by omega)) d os)
      have hta := HG.out h ph (by omega) (by omega) (by omega) (by omega)
      have HLT := hid (lt_of_tags HM.out hta)
      have HOR := hid (lt_or HM.out (x := f ph) (y := f h) (by omega))
      obtain ⟨px, nx, kx, ex⟩ := HE.out (f ph)
      obtain ⟨py, ny, ky, ey⟩ := HE.out (f h)
      rw [ex, ey] at HCa
      rw [ex] at cx
      rw [ey] at cy
      have cx2 : ∀ d os, (grow (redrawn wr d) os).cell? ⟨B, ph, none⟩ = some (.slice px nx kx) := fun d os => cell_regrown cx d os
      have cy2 : ∀ d os, (grow (redrawn wr d) os).cell? ⟨B, h, none⟩ = some (.slice py ny ky) := fun d os => cell_regrown cy d os
      have HH := hid hh
      have HPH := hid hph
      have HF1 := hid F1
      rw [hh] at cy2
      clear ex ey hh hta cx cy hph F1
      by_cases hz : c (f ph) (f h) < 0
      · generalize c (f ph) (f h) = z at *
        have zd : decide (z < 0) = true := decide_eq_true hz
        go_wp2_with fail
        refine wp_region_quiet_below (by kernel_rfl) (by kernel_rfl) ?_
        repeat (go_big_quiet_step (first | (go_at_fn g; exact Calls.regrown_of (HCa.out _ _))))
        refine wpQuiet_nil ?_
        intro _ hw'
        obtain ⟨⟨dq, osq⟩, hw''⟩ := hw'
        subst hw''
        have hb2 := below_regrown wr dq osq
        clear cx2 cy2 HCa
        generalize grow (redrawn wr dq) osq = W2 at *
        have HB2 := hid hb2
        clear hb2
        go_wp2_with fail
        go_roundw
        case rel =>
          have hh := HH.out
          exact ⟨i, h, rfl, by rw [hh]; go_num, by omega, by omega, by omega, HL.out, fun _ => by rw [← HPH.out]; exact HLT.out.2 hz, HF.out.on HB2.out, HK.out.trans (Kp.of HB2.out)⟩
        case measure => have hh := HH.out; simp [intOf]; omega
      · have HQ := hid (HOR.out.resolve_left (fun e => hz (HLT.out.1 e)))
        generalize c (f ph) (f h) = z at *
        have zd : decide (z < 0) = false := decide_eq_false hz
        go_wp2_with fail
        refine wp_region_quiet_below (by kernel_rfl) (by kernel_rfl) ?_
        repeat (go_big_quiet_step (first | (go_at_fn g; exact Calls.regrown_of (HCa.out _ _))))
        refine wpQuiet_nil ?_
        intro _ hw'
        obtain ⟨⟨dq, osq⟩, hw''⟩ := hw'
        subst hw''
        have hb2 := below_regrown wr dq osq
        clear cx2 cy2 HCa
        generalize grow (redrawn wr dq) osq = W2 at *
        have HB2 := hid hb2
        clear hb2
        go_wp2_with fail
        go_roundw
        case rel =>
          have hh := HH.out
          have hf1 := HF1.out
          exact ⟨h + 1, j, by rw [hh]; go_num, rfl, by omega, by omega, hjb, fun _ => by rw [Nat.add_sub_cancel, show nn - (h + 1) = ph by omega]; exact HQ.out, HR.out, HF.out.on HB2.out, HK.out.trans (Kp.of HB2.out)⟩
        case measure => have hh := HH.out; simp [intOf]; omega
    · obtain rfl : i = j := by omega
      have CUT : Hid (Cut c f a m b mid i) := ⟨by have := HNN.out; omega, by omega, fun h1 h2 => by have := HL.out (by have := HNN.out; omega); rwa [HNN.out] at this, fun h1 h2 => by have := HR.out (by omega); rwa [show pp - i = mid + m - i - 1 by have := HNN.out; have := HPP.out; omega] at this⟩
      obtain ⟨en, hen⟩ : ∃ x, x = mid + m - i := ⟨_, rfl⟩
      have hmb2 : mid + m - i ≤ b := by have := HNN.out; omega
      have enI : (nn : Int) - i = en := by have := HNN.out; omega
      have LFT := hid (lft_of (n := n) ⟨by omega, by omega, by omega⟩ hmb2 hb HT.out HU1.out HU2.out HG.out)
      have RGT := hid (fun (g1 : Nat → Nat) (hp : Pm a mid (rot i m (mid + m - i) f) g1) => rgt_of (n := n) (by omega) ⟨by omega, by omega, by omega⟩ hmb2 hb (by omega) HT.out HU1.out HU2.out HG.out hp)
      have HEN := hid hen
      clear hen hmb2
      by_cases bP : i < m
      · skip
        by_cases bR : a < i
        · skip
          have dP := dI (x := i) (y := m) (by have := HEN.out; omega)
          have eP : (i : Int) < m := by have := HEN.out; omega
          have dPe := dI (x := m) (y := en) (by have := HEN.out; omega)
          have ePe : (m : Int) < en := by have := HEN.out; omega
          have dR := dI (x := a) (y := i) (by have := HEN.out; omega)
          have eR : (a : Int) < i := by have := HEN.out; omega
          have dQ := dI (x := i) (y := mid) (by have := HEN.out; omega)
          have eQ : (i : Int) < mid := by have := HEN.out; omega
          have dT := dI (x := mid) (y := en) (by have := HEN.out; omega)
          have eT : (mid : Int) < en := by have := HEN.out; omega
          have dS := dI (x := en) (y := b) (by have := HEN.out; omega)
          have eS : (en : Int) < b := by have := HEN.out; omega
          have HR0 := hid HF.out
          go_upto_region 41 with (first | (go_at_call 139; refine (rotate_any (a := i) (m := m) (b := en) (f := f) (n := n) HE.out HR0.out (by omega) (by omega) (by omega) hn).mono ?_; rintro e w1 ⟨rfl, hr, hk⟩; rw [HEN.out] at hr; have HR1 := hid hr; have HK1 := hid (HK.out.trans hk); clear hr hk))
          go_upto_region 43 with (first | (go_at_call 118; refine (HIH.out a i mid (rot i m (mid + m - i) f) w1 (by omega) (HC.out.at HK1.out) HR1.out (by omega) (by omega) (by omega) LFT.out.tn LFT.out.u1 LFT.out.u2 LFT.out.t).mono ?_; rintro e w2 ⟨rfl, hr, hk⟩; have HR2 := hid hr; have HK2 := hid (HK1.out.trans hk); clear hr hk))
          obtain ⟨g1, r1, r2, r3⟩ := HR2.out
          have HR3 := hid r1
          have HP3 := hid r2
          have HU3 := hid r3
          clear r1 r2 r3 HR2
          have HRG := hid (RGT.out g1 HP3.out)
          have HG2 := HEN.out
          have HRu : Hid (up c g1 mid en ∧ up c g1 en b ∧ tg g1 mid en b) := by rw [HEN.out]; exact ⟨HRG.out.u1, HRG.out.u2, HRG.out.t⟩
          clear HG2
          go_wp2_with (first | (go_at_call 118; refine (HIH.out mid en b g1 w2 (by omega) (HC.out.at HK2.out) HR3.out (by omega) (by omega) (by omega) HRG.out.tn HRu.out.1 HRu.out.2.1 HRu.out.2.2).mono ?_; rintro e w3 ⟨rfl, hr, hk⟩; have HR4 := hid hr; have HK4 := hid (HK2.out.trans hk); clear hr hk))
          first | go_end0 | refine bodyPost_ret (results_none rfl _ _ _) rfl ?_
          obtain ⟨g2, q1, q2, q3⟩ := HR4.out
          exact ⟨rfl, ⟨g2, q1, sym_fin HM.out ⟨by omega, by omega⟩ HU1.out HU2.out CUT.out HP3.out HU3.out q2 q3⟩, HK4.out⟩
        · skip
          by_cases bS : mid + m < b + i
          · skip
            have dP := dI (x := i) (y := m) (by have := HEN.out; omega)
            have eP : (i : Int) < m := by have := HEN.out; omega
            have dPe := dI (x := m) (y := en) (by have := HEN.out; omega)
            have ePe : (m : Int) < en := by have := HEN.out; omega
            have dR := dN (x := a) (y := i) (by have := HEN.out; omega)
            have eR : ¬ (a : Int) < i := by have := HEN.out; omega
            have dQ := dI (x := i) (y := mid) (by have := HEN.out; omega)
            have eQ : (i : Int) < mid := by have := HEN.out; omega
            have dT := dI (x := mid) (y := en) (by have := HEN.out; omega)
            have eT : (mid : Int) < en := by have := HEN.out; omega
            have dS := dI (x := en) (y := b) (by have := HEN.out; omega)
            have eS : (en : Int) < b := by have := HEN.out; omega
            have HR0 := hid HF.out
            go_upto_region 41 with (first | (go_at_call 139; refine (rotate_any (a := i) (m := m) (b := en) (f := f) (n := n) HE.out HR0.out (by omega) (by omega) (by omega) hn).mono ?_; rintro e w1 ⟨rfl, hr, hk⟩; rw [HEN.out] at hr; have HR1 := hid hr; have HK1 := hid (HK.out.trans hk); clear hr hk))
            have HR2 : Hid (∃ g1, Rf enc B n g1 w1 ∧ Pm a mid (rot i m (mid + m - i) f) g1 ∧ up c g1 a mid) := ⟨_, HR1.out, Pm.refl _ _ _, by exact left_done ⟨by omega, by omega, by omega⟩ (by have := HEN.out; omega) HU1.out HU2.out HG.out (by omega)⟩
            have HK2 := hid HK1.out
            go_upto_region 43 with fail
            obtain ⟨g1, r1, r2, r3⟩ := HR2.out
            have HR3 := hid r1
            have HP3 := hid r2
            have HU3 := hid r3
            clear r1 r2 r3 HR2
            have HRG := hid (RGT.out g1 HP3.out)
            have HG2 := HEN.out
            have HRu : Hid (up c g1 mid en ∧ up c g1 en b ∧ tg g1 mid en b) := by rw [HEN.out]; exact ⟨HRG.out.u1, HRG.out.u2, HRG.out.t⟩
            clear HG2
            go_wp2_with (first | (go_at_call 118; refine (HIH.out mid en b g1 w1 (by omega) (HC.out.at HK2.out) HR3.out (by omega) (by omega) (by omega) HRG.out.tn HRu.out.1 HRu.out.2.1 HRu.out.2.2).mono ?_; rintro e w3 ⟨rfl, hr, hk⟩; have HR4 := hid hr; have HK4 := hid (HK2.out.trans hk); clear hr hk))
            first | go_end0 | refine bodyPost_ret (results_none rfl _ _ _) rfl ?_
            obtain ⟨g2, q1, q2, q3⟩ := HR4.out
            exact ⟨rfl, ⟨g2, q1, sym_fin HM.out ⟨by omega, by omega⟩ HU1.out HU2.out CUT.out HP3.out HU3.out q2 q3⟩, HK4.out⟩
          · skip
            have dP := dI (x := i) (y := m) (by have := HEN.out; omega)
            have eP : (i : Int) < m := by have := HEN.out; omega
            have dPe := dI (x := m) (y := en) (by have := HEN.out; omega)
            have ePe : (m : Int) < en := by have := HEN.out; omega
            have dR := dN (x := a) (y := i) (by have := HEN.out; omega)
            have eR : ¬ (a : Int) < i := by have := HEN.out; omega
            have dQ := dI (x := i) (y := mid) (by have := HEN.out; omega)
            have eQ : (i : Int) < mid := by have := HEN.out; omega
            have dT := dI (x := mid) (y := en) (by have := HEN.out; omega)
            have eT : (mid : Int) < en := by have := HEN.out; omega
            have dS := dN (x := en) (y := b) (by have := HEN.out; omega)
            have eS : ¬ (en : Int) < b := by have := HEN.out; omega
            have HR0 := hid HF.out
            go_upto_region 41 with (first | (go_at_call 139; refine (rotate_any (a := i) (m := m) (b := en) (f := f) (n := n) HE.out HR0.out (by omega) (by omega) (by omega) hn).mono ?_; rintro e w1 ⟨rfl, hr, hk⟩; rw [HEN.out] at hr; have HR1 := hid hr; have HK1 := hid (HK.out.trans hk); clear hr hk))
            have HR2 : Hid (∃ g1, Rf enc B n g1 w1 ∧ Pm a mid (rot i m (mid + m - i) f) g1 ∧ up c g1 a mid) := ⟨_, HR1.out, Pm.refl _ _ _, by exact left_done ⟨by omega, by omega, by omega⟩ (by have := HEN.out; omega) HU1.out HU2.out HG.out (by omega)⟩
            have HK2 := hid HK1.out
            go_upto_region 43 with fail
            obtain ⟨g1, r1, r2, r3⟩ := HR2.out
            have HR3 := hid r1
            have HP3 := hid r2
            have HU3 := hid r3
            clear r1 r2 r3 HR2
            have HR4 : Hid (∃ g2, Rf enc B n g2 w1 ∧ Pm mid b g1 g2 ∧ up c g2 mid b) := ⟨_, HR3.out, Pm.refl _ _ _, right_same HP3.out (by exact right_done (by omega) ⟨by omega, by omega, by omega⟩ (by have := HEN.out; omega) HU1.out HU2.out HG.out (by have := HEN.out; omega))⟩
            have HK4 := hid HK2.out
            go_wp2_with fail
            first | go_end0 | refine bodyPost_ret (results_none rfl _ _ _) rfl ?_
            obtain ⟨g2, q1, q2, q3⟩ := HR4.out
            exact ⟨rfl, ⟨g2, q1, sym_fin HM.out ⟨by omega, by omega⟩ HU1.out HU2.out CUT.out HP3.out HU3.out q2 q3⟩, HK4.out⟩
      · skip
        by_cases bQ : i < mid
        · skip
          have dP := dN (x := i) (y := m) (by have := HEN.out; omega)
          have eP : ¬ (i : Int) < m := by have := HEN.out; omega
          have dR := dI (x := a) (y := i) (by have := HEN.out; omega)
          have eR : (a : Int) < i := by have := HEN.out; omega
          have dQ := dI (x := i) (y := mid) (by have := HEN.out; omega)
          have eQ : (i : Int) < mid := by have := HEN.out; omega
          have dT := dN (x := mid) (y := en) (by have := HEN.out; omega)
          have eT : ¬ (mid : Int) < en := by have := HEN.out; omega
          have dS := dI (x := en) (y := b) (by have := HEN.out; omega)
          have eS : (en : Int) < b := by have := HEN.out; omega
          have HR1 : Hid (Rf enc B n (rot i m (mid + m - i) f) wr) := by have e0 := no_rot (f := f) (m := m) (mid := mid) (st := i) (by omega) (by omega); show Rf _ _ _ _ _; rw [e0]; exact HF.out
          have HK1 := hid HK.out
          go_upto_region 41 with fail
          go_upto_region 43 with (first | (go_at_call 118; refine (HIH.out a i mid (rot i m (mid + m - i) f) wr (by omega) (HC.out.at HK1.out) HR1.out (by omega) (by omega) (by omega) LFT.out.tn LFT.out.u1 LFT.out.u2 LFT.out.t).mono ?_; rintro e w2 ⟨rfl, hr, hk⟩; have HR2 := hid hr; have HK2 := hid (HK1.out.trans hk); clear hr hk))
          obtain ⟨g1, r1, r2, r3⟩ := HR2.out
          have HR3 := hid r1
          have HP3 := hid r2
          have HU3 := hid r3
          clear r1 r2 r3 HR2
          have HR4 : Hid (∃ g2, Rf enc B n g2 w2 ∧ Pm mid b g1 g2 ∧ up c g2 mid b) := ⟨_, HR3.out, Pm.refl _ _ _, right_same HP3.out (by exact right_done (by omega) ⟨by omega, by omega, by omega⟩ (by have := HEN.out; omega) HU1.out HU2.out HG.out (by have := HEN.out; omega))⟩
          have HK4 := hid HK2.out
          go_wp2_with fail
          first | go_end0 | refine bodyPost_ret (results_none rfl _ _ _) rfl ?_
          obtain ⟨g2, q1, q2, q3⟩ := HR4.out
          exact ⟨rfl, ⟨g2, q1, sym_fin HM.out ⟨by omega, by omega⟩ HU1.out HU2.out CUT.out HP3.out HU3.out q2 q3⟩, HK4.out⟩
        · skip
          have dP := dN (x := i) (y := m) (by have := HEN.out; omega)
          have eP : ¬ (i : Int) < m := by have := HEN.out; omega
          have dR := dI (x := a) (y := i) (by have := HEN.out; omega)
          have eR : (a : Int) < i := by have := HEN.out; omega
          have dQ := dN (x := i) (y := mid) (by have := HEN.out; omega)
          have eQ : ¬ (i : Int) < mid := by have := HEN.out; omega
          have dT := dN (x := mid) (y := en) (by have := HEN.out; omega)
          have eT : ¬ (mid : Int) < en := by have := HEN.out; omega
          have dS := dI (x := en) (y := b) (by have := HEN.out; omega)
          have eS : (en : Int) < b := by have := HEN.out; omega
          have HR1 : Hid (Rf enc B n (rot i m (mid + m - i) f) wr) := by have e0 := no_rot (f := f) (m := m) (mid := mid) (st := i) (by omega) (by omega); show Rf _ _ _ _ _; rw [e0]; exact HF.out
          have HK1 := hid HK.out
          go_upto_region 41 with fail
          have HR2 : Hid (∃ g1, Rf enc B n g1 wr ∧ Pm a mid (rot i m (mid + m - i) f) g1 ∧ up c g1 a mid) := ⟨_, HR1.out, Pm.refl _ _ _, by exact left_done ⟨by omega, by omega, by omega⟩ (by have := HEN.out; omega) HU1.out HU2.out HG.out (by omega)⟩
          have HK2 := hid HK1.out
          go_upto_region 43 with fail
          obtain ⟨g1, r1, r2, r3⟩ := HR2.out
          have HR3 := hid r1
          have HP3 := hid r2
          have HU3 := hid r3
          clear r1 r2 r3 HR2
          have HR4 : Hid (∃ g2, Rf enc B n g2 wr ∧ Pm mid b g1 g2 ∧ up c g2 mid b) := ⟨_, HR3.out, Pm.refl _ _ _, right_same HP3.out (by exact right_done (by omega) ⟨by omega, by omega, by omega⟩ (by have := HEN.out; omega) HU1.out HU2.out HG.out (by have := HEN.out; omega))⟩
          have HK4 := hid HK2.out
          go_wp2_with fail
          first | go_end0 | refine bodyPost_ret (results_none rfl _ _ _) rfl ?_
          obtain ⟨g2, q1, q2, q3⟩ := HR4.out
          exact ⟨rfl, ⟨g2, q1, sym_fin HM.out ⟨by omega, by omega⟩ HU1.out HU2.out CUT.out HP3.out HU3.out q2 q3⟩, HK4.out⟩
theorem sym_any {enc : Nat → Value} (hE : Sls enc) {g : Nat} {cb : Array Value} (eg : ∀ args w, (callFunc g args).run Try.prog w = .ok (.enter g args) w) {c : Nat → Nat → Int} (hc : Cm c) {B n cap : Nat} (hn : n ≤ 1000000) (s : Nat) : ∀ (a m b : Nat) (f : Nat → Nat) (w : World) (_ : b - a ≤ s) (_ : Cp g cb enc B n c w) (_ : Rf enc B n f w) (_ : a < m) (_ : m < b) (_ : b ≤ n) (_ : Tn n f) (_ : up c f a m) (_ : up c f m b) (_ : tg f a m b), Calls Try.prog 118 #[.slice (some ⟨B, 0, none⟩) n cap, .int .i64 a, .int .i64 m, .int .i64 b, .func (.func g) #[] cb] w fun e w' => e = .returned (.tuple #[]) ∧ Done enc B n c f a b w w' := by
  induction s with
  | zero => intro a m b f w hs hC h ham hmb; omega
  | succ s ih =>
    intro a m b f w hs hC h ham hmb hb ht hu1 hu2 htg
    by_cases h1 : m = a + 1
    · subst h1
      exact sym_left hE eg hc hC h hmb hb hn ht hu2 htg
    by_cases h2 : b = m + 1
    · subst h2
      exact sym_right hE eg hc hC h (by omega) hb hn ht hu1 htg
    by_cases h3 : (a + b) / 2 < m
    · exact sym_great hE eg hc hn ih hs hC h (by omega) (by omega) hb ht hu1 hu2 htg h3
    · exact sym_less hE eg hc hn ih hs hC h (by omega) (by omega) hb ht hu1 hu2 htg (by omega)
end Go.Proofs.Ytcidijjbcebcbaa.SS
