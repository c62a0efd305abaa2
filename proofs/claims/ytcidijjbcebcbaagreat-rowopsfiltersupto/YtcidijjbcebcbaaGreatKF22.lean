/-
  symMerge, where one of the two stretches has one element.
  symMerge, where the second of the two stretches has one element.
-/
import Derived.Test.YtcidijjbcebcbaaGreatKF21
namespace Go.Proofs.YtcidijjbcebcbaaGreat.SS
open Go.RowKit Go.Joins Go.Sort

theorem half_fdiv {i j h : Nat} (hh : h = (i + j) / 2) : ((i : Int) + (j : Int)).fdiv (2 ^ min (Int.toNat 1) IntKind.u64.bits) = (h : Int) := by show Int.fdiv _ 2 = _; rw [Int.fdiv_eq_ediv_of_nonneg _ (by omega)]; omega
set_option maxRecDepth 100000 in
set_option maxHeartbeats 4000000 in
theorem sym_left {enc : Nat → Value} (hE : Sls enc) {g : Nat} {cb : Array Value} (eg : ∀ args w, (callFunc g args).run Tryz.prog w = .ok (.enter g args) w) {c : Nat → Nat → Int} (hc : Cm c) {B n cap a b : Nat} {f : Nat → Nat} {w : World} (hC : Cp g cb enc B n c w) (h : Rf enc B n f w) (hab : a + 1 < b) (hb : b ≤ n) (hn : n ≤ 1000000) (ht : Tn n f) (hu : up c f (a + 1) b) (htg : tg f a (a + 1) b) : Calls Tryz.prog 59 #[.slice (some ⟨B, 0, none⟩) n cap, .int .i64 a, .int .i64 (a + 1 : Nat), .int .i64 b, .func (.func g) #[] cb] w fun e w' => e = .returned (.tuple #[]) ∧ Done enc B n c f a b w w' := by
  have H := hid h
  have HE := hid hE
  have HC := hid hC
  have HM := hid hc
  have HT := hid ht
  have HG := hid htg
  have HU := hid hu
  clear h hE hC hc ht htg hu
  have nI : (n : Int) ≤ 1000000 := by omega
  obtain ⟨m, hm⟩ : ∃ m, m = a + 1 := ⟨_, rfl⟩
  rw [← hm]
  have mI : (m : Int) - a = 1 := by omega
  have HMA := hid hm
  have aI : (a : Int) ≤ 1000000 := by omega
  have mb : m < b := by omega
  clear hm
  go_enter Tryz.func59, Tryz.ntmps59
  go_wp2
  go_loopw [10, 11] (fun x y wr => ∃ i j : Nat, x = .int .i64 i ∧ y = .int .i64 j ∧ m ≤ i ∧ i ≤ j ∧ j ≤ b ∧ Hid (m < i → lt c (f (i - 1)) (f a)) ∧ Hid (j < b → lt c (f a) (f j)) ∧ Hid (Rf enc B n f wr) ∧ Hid (Kp (fun b => b = B) w wr)) (fun x y _ => (intOf y - intOf x).toNat)
  case atStart => exact ⟨m, b, rfl, rfl, by omega, by omega, by omega, fun h => by omega, fun h => by omega, H.out, Kp.refl _ _⟩
  case round =>
    obtain ⟨i, j, rfl, rfl, hmi, hij, hjb, HL, HR, HF, HK⟩ := hrel
    by_cases hlt : i < j
    · obtain ⟨h, hh⟩ : ∃ h, h = (i + j) / 2 := ⟨_, rfl⟩
      have hhn : ((i : Int) + j) / 2 < n := by omega
      have han : (a : Int) < n := by omega
      have h0 : (0 : Int) ≤ ((i : Int) + j) / 2 := by omega
      have cx := HF.out.cell (i := h) (by omega)
      have cy := HF.out.cell (i := a) (by omega)
      have HCa := hid (fun d os => (HC.out.at HK.out).call (HT.out h (by omega)) (HT.out a (by omega)) d os)
      have hta := HG.out a h (Nat.le_refl _) (by omega) (by have := HMA.out; omega) (by omega)
      have HLT := hid (lt_of_tags HM.out hta)
      have HOR := hid (lt_or HM.out (x := f h) (y := f a) (by omega))
      obtain ⟨px, nx, kx, ex⟩ := HE.out (f h)
      obtain ⟨py, ny, ky, ey⟩ := HE.out (f a)
      rw [ex, ey] at HCa
      rw [ex] at cx
      rw [ey] at cy
      have cx2 : ∀ d os, (grow (redrawn wr d) os).cell? ⟨B, h, none⟩ = some (.slice px nx kx) := fun d os => cell_regrown cx d os
      have cy2 : ∀ d os, (grow (redrawn wr d) os).cell? ⟨B, a, none⟩ = some (.slice py ny ky) := fun d os => cell_regrown cy d os
      have HH := hid hh
      rw [hh] at cx2
      clear ex ey hh hta cx cy
      by_cases hz : c (f h) (f a) < 0
      · generalize c (f h) (f a) = z at *
        have zd : decide (z < 0) = true := decide_eq_true hz
        go_wp2_with fail
        refine wp_region_quiet_below (by kernel_rfl) (by kernel_rfl) ?_
        repeat (go_big_quiet_step (first | (go_at_fn g; exact Calls.regrown_of (HCa.out _ _))))
        refine wpQuiet_nil ?_
        intro _ hw'
        obtain ⟨⟨dq, osq⟩, hw''⟩ := hw'
        subst hw''
        have hb2 := below_regrown wr dq osq
        clear cx2 cy2 HCa
        generalize grow (redrawn wr dq) osq = W2 at *
        have HB2 := hid hb2
        clear hb2
        go_wp2_with fail
        go_roundw
        case rel =>
          have hh := HH.out
          exact ⟨h + 1, j, by rw [hh]; go_num, rfl, by omega, by omega, hjb, fun _ => by rw [Nat.add_sub_cancel]; exact HLT.out.2 hz, HR.out, HF.out.on HB2.out, HK.out.trans (Kp.of HB2.out)⟩
        case measure => have hh := HH.out; simp [intOf]; omega
      · have HQ := hid (HOR.out.resolve_left (fun e => hz (HLT.out.1 e)))
        generalize c (f h) (f a) = z at *
        have zd : decide (z < 0) = false := decide_eq_false hz
        go_wp2_with fail
        refine wp_region_quiet_below (by kernel_rfl) (by kernel_rfl) ?_
        repeat (go_big_quiet_step (first | (go_at_fn g; exact Calls.regrown_of (HCa.out _ _))))
        refine wpQuiet_nil ?_
        intro _ hw'
        obtain ⟨⟨dq, osq⟩, hw''⟩ := hw'
        subst hw''
        have hb2 := below_regrown wr dq osq
        clear cx2 cy2 HCa
        generalize grow (redrawn wr dq) osq = W2 at *
        have HB2 := hid hb2
        clear hb2
        go_wp2_with fail
        go_roundw
        case rel =>
          have hh := HH.out
          exact ⟨i, h, rfl, by rw [hh]; go_num, by omega, by omega, by omega, HL.out, fun _ => HQ.out, HF.out.on HB2.out, HK.out.trans (Kp.of HB2.out)⟩
        case measure => have hh := HH.out; simp [intOf]; omega
    · obtain rfl : i = j := by omega
      obtain ⟨wo, hwo⟩ : ∃ W, W = wr := ⟨wr, rfl⟩
      subst hwo
      have FIN : Hid (up c (rot a (a + 1) i f) a b) := ins_up HM.out HU.out (by have := HMA.out; omega) hjb (fun h => HL.out (by have := HMA.out; omega)) HR.out
      obtain ⟨ip, hip⟩ : ∃ q, q + 1 = i := ⟨i - 1, by omega⟩
      have iI : (i : Int) - 1 = ip := by omega
      go_wp2
      go_loopw [13] (fun x wr2 => ∃ k : Nat, a ≤ k ∧ k ≤ ip ∧ x = .int .i64 k ∧ Hid (Rf enc B n (rot a (a + 1) (k + 1) f) wr2) ∧ Hid (Kp (fun b => b = B) w wr2)) (fun x _ => ip - (intOf x).toNat)
      case atStart => exact ⟨a, Nat.le_refl _, by omega, rfl, by rw [rot_id]; exact HF.out, HK.out⟩
      case round =>
        obtain ⟨k, hak, hki, rfl, HF2, HK2⟩ := hrel
        by_cases hkl : k < ip
        · have kI : (k : Int) < ip := by omega
          obtain ⟨k1, hk1⟩ : ∃ q, q = k + 1 := ⟨_, rfl⟩
          have k1I : (k : Int) + 1 = k1 := by omega
          have kn : (k : Int) < n := by omega
          have k1n : (k1 : Int) < n := by omega
          have k0 : (0 : Int) ≤ k := by omega
          have k10 : (0 : Int) ≤ k1 := by omega
          obtain ⟨px, nx, kx, ex⟩ := HE.out (rot a (a + 1) (k + 1) f k)
          obtain ⟨py, ny, ky, ey⟩ := HE.out (rot a (a + 1) (k + 1) f k1)
          obtain ⟨cx, cy, fz, ⟨u, cu⟩, hS⟩ := swap_all HF2.out (Below.refl _ _) (i := k) (j := k1) (by omega) (by omega) ex ey
          have HS := hid hS
          have HK1 := hid hk1
          clear hS ex ey hk1
          go_wp2_with fail
          go_region
          all_goals
            go_wp2_with fail
            go_roundw
            case rel =>
              have hk1 := HK1.out
              refine ⟨k + 1, by omega, by omega, by go_num, ?_, HK2.out.trans HS.out.2⟩
              show Rf _ _ _ _ _
              rw [← rot_up f hak, ← hk1]
              have := HS.out.1
              rw [hk1] at this ⊢
              exact this
            case measure => simp [intOf]; omega
        · obtain rfl : k = ip := by omega
          go_wp2
          first | go_end0 | refine bodyPost_ret (results_none rfl _ _ _) rfl ?_
          rw [hip] at HF2
          exact ⟨rfl, ⟨_, HF2.out, (Pm.rot f (by omega) (by have := HMA.out; omega)).mono (Nat.le_refl _) hjb, FIN.out⟩, HK2.out⟩
end Go.Proofs.YtcidijjbcebcbaaGreat.SS
namespace Go.Proofs.YtcidijjbcebcbaaGreat.SS
open Go.RowKit Go.Joins Go.Sort

set_option maxRecDepth 100000 in
set_option maxHeartbeats 4000000 in
theorem sym_right {enc : Nat → Value} (hE : Sls enc) {g : Nat} {cb : Array Value} (eg : ∀ args w, (callFunc g args).run Tryz.prog w = .ok (.enter g args) w) {c : Nat → Nat → Int} (hc : Cm c) {B n cap a m : Nat} {f : Nat → Nat} {w : World} (hC : Cp g cb enc B n c w) (h : Rf enc B n f w) (ham : a + 1 < m) (hb : m + 1 ≤ n) (hn : n ≤ 1000000) (ht : Tn n f) (hu : up c f a m) (htg : tg f a m (m + 1)) : Calls Tryz.prog 59 #[.slice (some ⟨B, 0, none⟩) n cap, .int .i64 a, .int .i64 m, .int .i64 (m + 1 : Nat), .func (.func g) #[] cb] w fun e w' => e = .returned (.tuple #[]) ∧ Done enc B n c f a (m + 1) w w' := by
  have H := hid h
  have HE := hid hE
  have HC := hid hC
  have HM := hid hc
  have HT := hid ht
  have HG := hid htg
  have HU := hid hu
  clear h hE hC hc ht htg hu
  have nI : (n : Int) ≤ 1000000 := by omega
  obtain ⟨b, hb1⟩ : ∃ b, b = m + 1 := ⟨_, rfl⟩
  rw [← hb1]
  have bI : (b : Int) - m = 1 := by omega
  have mI : ((m : Int) - a == 1) = false := by simp; omega
  have mI2 : ¬ (m : Int) - a = 1 := by omega
  have HBM := hid hb1
  have mn : (m : Int) < n := by omega
  have m0 : (0 : Int) ≤ m := by omega
  clear hb1
  go_enter Tryz.func59, Tryz.ntmps59
  go_wp2
  go_loopw [14, 15] (fun x y wr => ∃ i j : Nat, x = .int .i64 i ∧ y = .int .i64 j ∧ a ≤ i ∧ i ≤ j ∧ j ≤ m ∧ Hid (a < i → lt c (f (i - 1)) (f m)) ∧ Hid (j < m → lt c (f m) (f j)) ∧ Hid (Rf enc B n f wr) ∧ Hid (Kp (fun b => b = B) w wr)) (fun x y _ => (intOf y - intOf x).toNat)
  case atStart => exact ⟨a, m, rfl, rfl, by omega, by omega, by omega, fun h => by omega, fun h => by omega, H.out, Kp.refl _ _⟩
  case round =>
    obtain ⟨i, j, rfl, rfl, hmi, hij, hjb, HL, HR, HF, HK⟩ := hrel
    by_cases hlt : i < j
    · obtain ⟨h, hh⟩ : ∃ h, h = (i + j) / 2 := ⟨_, rfl⟩
      have hhn : ((i : Int) + j) / 2 < n := by omega
      have h0 : (0 : Int) ≤ ((i : Int) + j) / 2 := by omega
      have cx := HF.out.cell (i := m) (by omega)
      have cy := HF.out.cell (i := h) (by omega)
      have HCa := hid (fun d os => (HC.out.at HK.out).call (HT.out m (by omega)) (HT.out h (by omega)) d os)
      have hta := HG.out h m (by omega) (by omega) (Nat.le_refl _) (by omega)
      have HLT := hid (lt_of_tags HM.out hta)
      have HOR := hid (lt_or HM.out (x := f m) (y := f h) (by omega))
      obtain ⟨px, nx, kx, ex⟩ := HE.out (f m)
      obtain ⟨py, ny, ky, ey⟩ := HE.out (f h)
      rw [ex, ey] at HCa
      rw [ex] at cx
      rw [ey] at cy
      have cx2 : ∀ d os, (grow (redrawn wr d) os).cell? ⟨B, m, none⟩ = some (.slice px nx kx) := fun d os => cell_regrown cx d os
      have cy2 : ∀ d os, (grow (redrawn wr d) os).cell? ⟨B, h, none⟩ = some (.slice py ny ky) := fun d os => cell_regrown cy d os
      have HH := hid hh
      rw [hh] at cy2
      clear ex ey hh hta cx cy
      by_cases hz : c (f m) (f h) < 0
      · generalize c (f m) (f h) = z at *
        have zd : decide (z < 0) = true := decide_eq_true hz
        go_wp2_with fail
        refine wp_region_quiet_below (by kernel_rfl) (by kernel_rfl) ?_
        repeat (go_big_quiet_step (first | (go_at_fn g; exact Calls.regrown_of (HCa.out _ _))))
        refine wpQuiet_nil ?_
        intro _ hw'
        obtain ⟨⟨dq, osq⟩, hw''⟩ := hw'
        subst hw''
        have hb2 := below_regrown wr dq osq
        clear cx2 cy2 HCa
        generalize grow (redrawn wr dq) osq = W2 at *
        have HB2 := hid hb2
        clear hb2
        go_wp2_with fail
        go_roundw
        case rel =>
          have hh := HH.out
          exact ⟨i, h, rfl, by rw [hh]; go_num, by omega, by omega, by omega, HL.out, fun _ => HLT.out.2 hz, HF.out.on HB2.out, HK.out.trans (Kp.of HB2.out)⟩
        case measure => have hh := HH.out; simp [intOf]; omega
      · have HQ := hid (HOR.out.resolve_left (fun e => hz (HLT.out.1 e)))
        generalize c (f m) (f h) = z at *
        have zd : decide (z < 0) = false := decide_eq_false hz
        go_wp2_with fail
        refine wp_region_quiet_below (by kernel_rfl) (by kernel_rfl) ?_
        repeat (go_big_quiet_step (first | (go_at_fn g; exact Calls.regrown_of (HCa.out _ _))))
        refine wpQuiet_nil ?_
        intro _ hw'
        obtain ⟨⟨dq, osq⟩, hw''⟩ := hw'
        subst hw''
        have hb2 := below_regrown wr dq osq
        clear cx2 cy2 HCa
        generalize grow (redrawn wr dq) osq = W2 at *
        have HB2 := hid hb2
        clear hb2
        go_wp2_with fail
        go_roundw
        case rel =>
          have hh := HH.out
          exact ⟨h + 1, j, by rw [hh]; go_num, rfl, by omega, by omega, hjb, fun _ => by rw [Nat.add_sub_cancel]; exact HQ.out, HR.out, HF.out.on HB2.out, HK.out.trans (Kp.of HB2.out)⟩
        case measure => have hh := HH.out; simp [intOf]; omega
    · obtain rfl : i = j := by omega
      obtain ⟨wo, hwo⟩ : ∃ W, W = wr := ⟨wr, rfl⟩
      subst hwo
      have FIN : Hid (up c (rot i m (m + 1) f) a (m + 1)) := ins_down HM.out HU.out hmi hjb HL.out HR.out
      go_wp2
      go_loopw [17] (fun x wr2 => ∃ k : Nat, i ≤ k ∧ k ≤ m ∧ x = .int .i64 k ∧ Hid (Rf enc B n (rot k m (m + 1) f) wr2) ∧ Hid (Kp (fun b => b = B) w wr2)) (fun x _ => (intOf x).toNat)
      case atStart => exact ⟨m, hjb, Nat.le_refl _, rfl, by rw [rot_id']; exact HF.out, HK.out⟩
      case round =>
        obtain ⟨k, hik, hkm, rfl, HF2, HK2⟩ := hrel
        by_cases hkl : i < k
        · have kI : (i : Int) < k := by omega
          obtain ⟨k1, hk1⟩ : ∃ q, q + 1 = k := ⟨k - 1, by omega⟩
          have k1I : (k : Int) - 1 = k1 := by omega
          have kn : (k : Int) < n := by omega
          have k1n : (k1 : Int) < n := by omega
          have k0 : (0 : Int) ≤ k := by omega
          have k10 : (0 : Int) ≤ k1 := by omega
          obtain ⟨px, nx, kx, ex⟩ := HE.out (rot k m (m + 1) f k)
          obtain ⟨py, ny, ky, ey⟩ := HE.out (rot k m (m + 1) f k1)
          obtain ⟨cx, cy, fz, ⟨u, cu⟩, hS⟩ := swap_all HF2.out (Below.refl _ _) (i := k) (j := k1) (by omega) (by omega) ex ey
          have HS := hid hS
          have HK1 := hid hk1
          clear hS ex ey hk1
          go_wp2_with fail
          go_region
          all_goals
            go_wp2_with fail
            go_roundw
            case rel =>
              have hk1 := HK1.out
              refine ⟨k1, by omega, by omega, by go_num, ?_, HK2.out.trans HS.out.2⟩
              show Rf _ _ _ _ _
              have e1 := rot_down (m := m) (k := k) f (by omega) hkm
              rw [show k - 1 = k1 by omega] at e1
              rw [← e1]
              exact HS.out.1
            case measure => have := HK1.out; simp [intOf]; omega
        · obtain rfl : k = i := by omega
          go_wp2
          first | go_end0 | refine bodyPost_ret (results_none rfl _ _ _) rfl ?_
          rw [HBM.out]
          exact ⟨rfl, ⟨_, HF2.out, (Pm.rot f hjb (by omega)).mono hmi (Nat.le_refl _), FIN.out⟩, HK2.out⟩
end Go.Proofs.YtcidijjbcebcbaaGreat.SS
