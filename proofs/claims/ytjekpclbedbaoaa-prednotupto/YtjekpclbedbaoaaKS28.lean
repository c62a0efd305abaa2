/-
  insertionSort: a stretch whose tags rise becomes sorted.
-/
import Derived.Test.YtjekpclbedbaoaaKS27
namespace Go.Proofs.Ytjekpclbedbaoaa.SS
open Go.RowKit Go.Joins Go.Sort

/- What is asked of the comparison: in each world in which the row alone has turned it tells c, and turns nothing. -/
def Cp (g : Nat) (cb : Array Value) (enc : Nat → Value) (B n : Nat) (c : Nat → Nat → Int) (w0 : World) : Prop := ∀ w', Kp (fun b => b = B) w0 w' → ∀ x y, x < n → y < n → Calls Try.prog g (#[enc x, enc y] ++ cb) w' fun e w'' => e = .returned (.int .i64 (c x y)) ∧ Below w'.heap.size w' w''
theorem Cp.at {g : Nat} {cb : Array Value} {enc : Nat → Value} {B n : Nat} {c : Nat → Nat → Int} {w0 w1 : World} (h : Cp g cb enc B n c w0) (hk : Kp (fun b => b = B) w0 w1) : Cp g cb enc B n c w1 := fun w' hk' x y hx hy => h w' (hk.trans hk') x y hx hy
theorem Cp.call {g : Nat} {cb : Array Value} {enc : Nat → Value} {B n : Nat} {c : Nat → Nat → Int} {w0 : World} (h : Cp g cb enc B n c w0) {x y : Nat} (hx : x < n) (hy : y < n) (d : Nat) (os : Array Obj) : Calls Try.prog g (#[enc x, enc y] ++ cb) (grow (redrawn w0 d) os) fun e w' => e = .returned (.int .i64 (c x y)) ∧ Below (grow (redrawn w0 d) os).heap.size (grow (redrawn w0 d) os) w' := h _ (Kp.of (below_regrown w0 d os)) x y hx hy
/- All tags lie below n. -/
def Tn (n : Nat) (f : Nat → Nat) : Prop := ∀ i, i < n → f i < n
theorem Tn.pm {n a b : Nat} {f g : Nat → Nat} (h : Tn n f) (hp : Pm a b f g) (hb : b ≤ n) : Tn n g := fun i hi => by
  by_cases h1 : i < a ∨ b ≤ i
  · rw [hp.out i h1]; exact h i hi
  · obtain ⟨j, h2, h3, e⟩ := hp.mem i (by omega) (by omega)
    rw [e]; exact h j (by omega)
/- What a part of the sort leaves: a row whose places between a and b are turned about, and sorted. -/
def Done (enc : Nat → Value) (B n : Nat) (c : Nat → Nat → Int) (f : Nat → Nat) (a b : Nat) (w w' : World) : Prop := (∃ g, Rf enc B n g w' ∧ Pm a b f g ∧ up c g a b) ∧ Kp (fun b => b = B) w w'
theorem swap_all {enc : Nat → Value} {B n : Nat} {f : Nat → Nat} {w w2 : World} (h : Rf enc B n f w) (hb : Below w.heap.size w w2) {i j : Nat} (hi : i < n) (hj : j < n) {v1 v2 : Value} (h1 : enc (f i) = v1) (h2 : enc (f j) = v2) : w2.cell? ⟨B, i, none⟩ = some v1 ∧ w2.cell? ⟨B, j, none⟩ = some v2 ∧ (∀ k, w2.frozen? ⟨B, k, none⟩ = false) ∧ (∃ u, (w2.setCell ⟨B, i, none⟩ v2).cell? ⟨B, j, none⟩ = some u) ∧ Rf enc B n (sw i j f) (((w2.setCell ⟨B, i, none⟩ v2).setCell ⟨B, j, none⟩ v1).drew) ∧ Kp (fun b => b = B) w (((w2.setCell ⟨B, i, none⟩ v2).setCell ⟨B, j, none⟩ v1).drew) := by
  subst h1 h2
  have h2 := h.on hb
  obtain ⟨a1, a2⟩ := swap_any h2 hi hj
  refine ⟨h2.cell hi, h2.cell hj, h2.frozen, ?_, a1, (Kp.of hb).trans a2⟩
  by_cases e : i = j
  · subst e; exact ⟨_, World.cell?_setCell_same _ _ _ (h2.cell hi)⟩
  · exact ⟨_, (World.cell?_setCell_other _ _ _ _ (by intro e'; simp only [Addr.mk.injEq] at e'; omega)).trans (h2.cell hj)⟩
theorem Pm.one {a : Nat} {f g : Nat → Nat} (h : Pm a (a + 1) f g) : g = f := by
  funext i
  by_cases e : i = a
  · subst e
    obtain ⟨j, h1, h2, h3⟩ := h.mem i (Nat.le_refl _) (by omega)
    rw [h3, show j = i by omega]
  · exact h.out i (by omega)
theorem up_one {c : Nat → Nat → Int} {f : Nat → Nat} {a b : Nat} (h : b ≤ a + 1) : up c f a b := fun i j h1 h2 h3 => by omega
set_option maxRecDepth 100000 in
set_option maxHeartbeats 4000000 in
theorem insertion_any {enc : Nat → Value} (hE : Sls enc) {g : Nat} {cb : Array Value} (eg : ∀ args w, (callFunc g args).run Try.prog w = .ok (.enter g args) w) {c : Nat → Nat → Int} (hc : Cm c) {B n cap a b : Nat} {f : Nat → Nat} {w : World} (hC : Cp g cb enc B n c w) (h : Rf enc B n f w) (hab : a ≤ b) (hb : b ≤ n) (hn : n ≤ 1000000) (ht : Tn n f) (htg : ∀ i j, a ≤ i → i < j → j < b → f i < f j) : Calls Try.prog 120 #[.slice (some ⟨B, 0, none⟩) n cap, .int .i64 a, .int .i64 b, .func (.func g) #[] cb] w fun e w' => e = .returned (.tuple #[]) ∧ Done enc B n c f a b w w' := by
  have H := hid h
  have HE := hid hE
  have HC := hid hC
  have HM := hid hc
  have HT := hid ht
  have HG := hid htg
  clear h hE hC hc ht htg
  have nI : (n : Int) ≤ 1000000 := by omega
  have aI : (a : Int) ≤ 1000001 := by omega
  go_enter Try.func120, Try.ntmps120
  go_wp2
  go_loopw [8] (fun x wr => ∃ i : Nat, a < i ∧ i ≤ b + 1 ∧ (a < b → i ≤ b) ∧ x = .int .i64 i ∧ Hid (∃ h, Rf enc B n h wr ∧ Pm a i f h ∧ up c h a i) ∧ Hid (Kp (fun b => b = B) w wr)) (fun x _ => b - (intOf x).toNat)
  case atStart => exact ⟨a + 1, by omega, by omega, by omega, by go_num, ⟨f, H.out, Pm.refl _ _ _, up_one (by omega)⟩, Kp.refl _ _⟩
  case round =>
    obtain ⟨i, hai, hib1, hib, rfl, HR, HK⟩ := hrel
    obtain ⟨f0, hr0, hp0, hu0⟩ := HR.out
    have HR0 := hid hr0
    have HP0 := hid hp0
    have HU0 := hid hu0
    clear hr0 hp0 hu0 HR
    by_cases hlt : i < b
    · have hltI : (i : Int) < b := by omega
      have ti : ∀ x, a ≤ x → x < i → f0 x < f0 i := fun x h1 h2 => by
        obtain ⟨y, h3, h4, e⟩ := HP0.out.mem x h1 h2
        rw [e, HP0.out.out i (Or.inr (Nat.le_refl _))]
        exact HG.out y i h3 h4 hlt
      have HTI := hid ti
      clear ti
      obtain ⟨wo, hwo⟩ : ∃ W, W = wr := ⟨wr, rfl⟩
      subst hwo
      go_wp2
      go_loopw [9] (fun x wr2 => ∃ j : Nat, a ≤ j ∧ j ≤ i ∧ x = .int .i64 j ∧ Hid (Rf enc B n (rot j i (i + 1) f0) wr2) ∧ Hid (j < i → lt c (f0 i) (f0 j)) ∧ Hid (Kp (fun b => b = B) w wr2)) (fun x _ => (intOf x).toNat)
      case atStart => exact ⟨i, by omega, Nat.le_refl _, rfl, by rw [rot_id']; exact HR0.out, fun h => by omega, HK.out⟩
      case round =>
        obtain ⟨j, haj, hji, rfl, HR, HL, HK2⟩ := hrel
        have fin : (a < j → lt c (f0 (j - 1)) (f0 i)) → ∃ h, Rf enc B n h wr ∧ Pm a (i + 1) f h ∧ up c h a (i + 1) := fun h1 =>
          ⟨_, HR.out, (HP0.out.mono (Nat.le_refl _) (by omega)).trans ((Pm.rot f0 hji (by omega)).mono haj (Nat.le_refl _)), ins_down HM.out HU0.out haj hji h1 HL.out⟩
        have FIN := hid fin
        clear fin
        by_cases hja : a < j
        · obtain ⟨jp, hjp⟩ : ∃ q, q + 1 = j := ⟨j - 1, by omega⟩
          subst hjp
          obtain ⟨jj, hjj⟩ : ∃ q, q = jp + 1 := ⟨_, rfl⟩
          have jI : ((jp + 1 : Nat) : Int) = (jj : Int) := by omega
          have pI : (jj : Int) - 1 = (jp : Int) := by omega
          have gj : (a : Int) < jj := by omega
          have gd : decide ((a : Int) < (jj : Int)) = true := decide_eq_true gj
          have jn : (jj : Int) < n := by omega
          have pn : (jp : Int) < n := by omega
          have j0 : (0 : Int) ≤ jj := by omega
          have p0 : (0 : Int) ≤ jp := by omega
          have cx := HR.out.cell (i := jj) (by omega)
          have cy := HR.out.cell (i := jp) (by omega)
          have hT2 : Tn n (rot (jp + 1) i (i + 1) f0) := (HT.out.pm HP0.out (by omega)).pm (Pm.rot f0 hji (by omega)) (by omega)
          have HCa := hid (fun d os => (HC.out.at HK2.out).call (hT2 jj (by omega)) (hT2 jp (by omega)) d os)
          have ex0 : rot (jp + 1) i (i + 1) f0 jj = f0 i := by subst hjj; unfold rot; rw [if_pos (by omega)]; congr 1; omega
          have ey0 : rot (jp + 1) i (i + 1) f0 jp = f0 jp := by unfold rot; rw [if_neg (by omega), if_neg (by omega)]
          rw [ex0, ey0] at HCa
          rw [ex0] at cx
          rw [ey0] at cy
          have HLT := hid (lt_of_tags HM.out (HTI.out jp (by omega) (by omega)))
          obtain ⟨px, nx, kx, ex⟩ := HE.out (f0 i)
          obtain ⟨py, ny, ky, ey⟩ := HE.out (f0 jp)
          have HS := hid (fun (W2 : World) (hb : Below wr.heap.size wr W2) => swap_all HR.out hb (i := jj) (j := jp) (v1 := .slice px nx kx) (v2 := .slice py ny ky) (by omega) (by omega) (by rw [ex0]; exact ex) (by rw [ey0]; exact ey))
          rw [ex, ey] at HCa
          rw [ex] at cx
          rw [ey] at cy
          have cx2 : ∀ d os, (grow (redrawn wr d) os).cell? ⟨B, jj, none⟩ = some (.slice px nx kx) := fun d os => cell_regrown cx d os
          have cy2 : ∀ d os, (grow (redrawn wr d) os).cell? ⟨B, jp, none⟩ = some (.slice py ny ky) := fun d os => cell_regrown cy d os
          have HJJ := hid hjj
          rw [jI]
          clear ex ey ex0 ey0 hjj hT2
          by_cases hz : c (f0 i) (f0 jp) < 0
          · generalize c (f0 i) (f0 jp) = z at *
            have zd : decide (z < 0) = true := decide_eq_true hz
            go_wp2_with fail
            refine wp_region_quiet_below (by kernel_rfl) (by kernel_rfl) ?_
            repeat (go_big_quiet_step (first | (go_at_fn g; exact Calls.regrown_of (HCa.out _ _))))
            refine wpQuiet_nil ?_
            intro _ hw'
            obtain ⟨⟨dq, osq⟩, hw''⟩ := hw'
            subst hw''
            have hb2 := below_regrown wr dq osq
            clear cx2 cy2 cx cy HCa
            generalize grow (redrawn wr dq) osq = W2 at *
            obtain ⟨cx, cy, fz, ⟨u, cu⟩, hS⟩ := HS.out W2 hb2
            have HS2 := hid hS
            clear hS hb2
            go_wp2_with fail
            go_region
            all_goals
              go_wp2_with fail
              go_roundw
              case rel =>
                have hjj := HJJ.out
                refine ⟨jp, by omega, by omega, by go_num, ?_, fun _ => HLT.out.2 hz, HK2.out.trans HS2.out.2⟩
                show Rf _ _ _ _ _
                have e1 := rot_down (m := i) (k := jp + 1) f0 (by omega) hji
                rw [← hjj] at e1
                rw [show jp = jj - 1 by omega, ← e1, hjj]
                have := HS2.out.1
                rw [hjj] at this
                rw [show jp + 1 - 1 = jp by omega]
                exact this
              case measure => have := HJJ.out; simp [intOf]; omega
          · have HF := hid (FIN.out (fun _ => by
              rw [show jp + 1 - 1 = jp by omega]
              refine (lt_or HM.out (fun e => ?_)).resolve_right (fun e => hz (HLT.out.1 e))
              have := HTI.out jp (by omega) (by omega); omega))
            generalize c (f0 i) (f0 jp) = z at *
            have zd : decide (z < 0) = false := decide_eq_false hz
            go_wp2_with fail
            refine wp_region_quiet_below (by kernel_rfl) (by kernel_rfl) ?_
            repeat (go_big_quiet_step (first | (go_at_fn g; exact Calls.regrown_of (HCa.out _ _))))
            refine wpQuiet_nil ?_
            intro _ hw'
            obtain ⟨⟨dq, osq⟩, hw''⟩ := hw'
            subst hw''
            have hb2 := below_regrown wr dq osq
            clear cx2 cy2 cx cy HCa
            generalize grow (redrawn wr dq) osq = W2 at *
            have HB2 := hid hb2
            clear hb2
            go_wp2_with fail
            go_roundw
            case rel =>
              obtain ⟨h, q1, q2, q3⟩ := HF.out
              exact ⟨i + 1, by omega, by omega, by omega, by go_num, ⟨h, q1.on HB2.out, q2, q3⟩, HK2.out.trans (Kp.of HB2.out)⟩
            case measure => simp [intOf]; omega
        · have HF := hid (FIN.out (fun h => absurd h hja))
          have gj : ¬ (a : Int) < j := by omega
          have gd : decide ((a : Int) < (j : Int)) = false := decide_eq_false gj
          go_wp2_with fail
          refine wp_region_quiet_below (by kernel_rfl) (by kernel_rfl) ?_
          repeat (go_big_quiet_step (fail))
          refine wpQuiet_nil ?_
          intro _ hw'
          obtain ⟨⟨dq, osq⟩, hw''⟩ := hw'
          subst hw''
          have hb2 := below_regrown wr dq osq
          generalize grow (redrawn wr dq) osq = W2 at *
          have HB2 := hid hb2
          clear hb2
          go_wp2_with fail
          go_roundw
          case rel =>
            obtain ⟨h, q1, q2, q3⟩ := HF.out
            exact ⟨i + 1, by omega, by omega, by omega, by go_num, ⟨h, q1.on HB2.out, q2, q3⟩, HK2.out.trans (Kp.of HB2.out)⟩
          case measure => simp [intOf]; omega
    · go_wp2
      go_end0
      by_cases hab2 : a < b
      · obtain rfl : i = b := by have := hib hab2; omega
        exact ⟨rfl, ⟨f0, HR0.out, HP0.out, HU0.out⟩, HK.out⟩
      · obtain rfl : i = a + 1 := by omega
        obtain rfl : a = b := by omega
        rw [HP0.out.one] at HR0
        exact ⟨rfl, ⟨f, HR0.out, Pm.refl _ _ _, up_one (by omega)⟩, HK.out⟩
end Go.Proofs.Ytjekpclbedbaoaa.SS
