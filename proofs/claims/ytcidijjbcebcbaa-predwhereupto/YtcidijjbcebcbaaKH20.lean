/-
  The reference's Where.
  What few returns.
  The reference's reader: a test, as mathematics.
  The reference's reader: a test.
-/
import Derived.Test.YtcidijjbcebcbaaKH08
import Derived.Test.YtcidijjbcebcbaaKH12
import Derived.Test.YtcidijjbcebcbaaKH14
import Derived.Test.YtcidijjbcebcbaaKH17
import Derived.Test.YtcidijjbcebcbaaKH19
namespace Go.Proofs.Ytcidijjbcebcbaa.PD
open Go.RowKit Go.Joins Go.Sort

theorem row_new {B : Nat} {w : World} {v : Value} {r : TN.Rw} (h : TN.Own TN.Vl.cells 11 39 B w v r) (hb : r.length * TN.bsz 11 ≤ 140737488355328) : TN.RowIn (fun b => B ≤ b ∧ b < w.heap.size) w v r :=
  (TN.SlAt.low (TN.Own.sl h TN.vl_len hb) (by decide) TN.vl_len).imp (fun b hb => hb)
set_option maxRecDepth 100000 in
set_option maxHeartbeats 16000000 in
theorem rwhere15_any {i : Int} {nv cv rv : Value} {qs : List Nx} {cs : List TN.Cl} {rs : List TN.Rw} {hs : List Value} {w : World} (hq : Qx (fun b => b < w.heap.size) w nv qs) (hl : qs.length ≤ 1000) (hc : TN.ColsAt w cv cs) (hr : TN.SlAt TN.any TN.one 1 w rv hs) (hh : TN.HeadsIn TN.any w hs rs) (hz : ∀ q ∈ qs, q.np.kind = 15 → ∀ r ∈ rs, Rsz r) (hvs : ∀ q ∈ qs, (St q.np.vs).size ≤ 1000000000000) (hrl : rs.length ≤ 1000000) : Calls Try.prog 22 #[.agg #[cv, rv], .agg #[nv], .int .i64 i] w (WhP' cs (rs.filter (holdsX cs qs i)) w) := by
  obtain ⟨pn, cn, rfl, -, -⟩ := hq.sl.form
  obtain ⟨pc, cc, hpc, -⟩ := id hc
  obtain ⟨pr, cr, hpr, -⟩ := id hr
  subst hpc hpr
  obtain ⟨W, hW⟩ : ∃ W, W = ((w.alloc (.cells #[.slice pc cs.length cc, .slice pr hs.length cr] 28)).alloc (.cells #[.slice pn qs.length cn] 24)).alloc (.cells #[.slice none 0 0, .slice none 0 0] 28) := ⟨_, rfl⟩
  have hb1 : Below w.heap.size w (w.alloc (.cells #[.slice pc cs.length cc, .slice pr hs.length cr] 28)) := (Below.refl _ _).alloc (Nat.le_refl _) _
  have hb2 : Below w.heap.size w W := by rw [hW]; exact (hb1.alloc hb1.size _).alloc (Nat.le_trans hb1.size (by simp)) _
  have hT : W.heap[w.heap.size]? = some (.cells #[.slice pc cs.length cc, .slice pr hs.length cr] 28 (0, 0)) := by
    rw [hW]
    exact block_on (block_on (alloc_block w _) ((Below.refl _ _).alloc (Nat.le_refl _) _)) ((Below.refl _ _).alloc (Nat.le_refl _) _)
  have hO : W.heap[w.heap.size + 1 + 1]? = some (.cells #[.slice none 0 0, .slice none 0 0] 28 (0, 0)) := by
    rw [hW]
    have := alloc_block ((w.alloc (.cells #[.slice pc cs.length cc, .slice pr hs.length cr] 28)).alloc (.cells #[.slice pn qs.length cn] 24)) (.cells #[.slice none 0 0, .slice none 0 0] 28)
    simpa using this
  have hN : W.heap[w.heap.size + 1]? = some (.cells #[.slice pn qs.length cn] 24 (0, 0)) := by
    rw [hW]
    have := alloc_block (w.alloc (.cells #[.slice pc cs.length cc, .slice pr hs.length cr] 28)) (.cells #[.slice pn qs.length cn] 24)
    exact block_on (by simpa using this) ((Below.refl _ _).alloc (Nat.le_refl _) _)
  have HB := hid hb2
  have HCo := hid (tn_low hc (fun x => ⟨_, rfl⟩))
  have HRo := hid (tn_low hr (fun x => ⟨_, rfl⟩))
  have HRw : Hid (∀ (j : Nat) h r, hs[j]? = some h → rs[j]? = some r → TN.RowIn (fun b => b < w.heap.size) w h r) := fun j h r h1 h2 => row_lt (hh.2 j h r h1 h2)
  have HLn := hid hh.1
  have HQ := hid hq
  have HL := hid hl
  have HZ := hid hz
  have HV := hid hvs
  have HRL := hid hrl
  have HT := hid hT
  have HO := hid hO
  have HN := hid hN
  have HW := hid hW
  have y0 := block_cell hT
  have HCW := hid (TN.SlAt.on HCo.out hb2)
  clear hq hl hc hr hh hz hvs hb1 hb2 hT hO hN hW
  go_enter Try.func22, Try.ntmps22
  go_upto_region 1 with fail
  rw [← HW.out]
  clear HW
  have y0a : ∀ O o, (W.alloc O).cell? ⟨w.heap.size, o, none⟩ = W.cell? ⟨w.heap.size, o, none⟩ := fun O o => ((Below.refl W.heap.size W).alloc (Nat.le_refl _) O).cell (lt_of_block HT.out)
  go_upto_region 3 with (first | (at_builtin; refine TN.app_any TN.elem45 TN.cl_len (fun x _ => TN.cl_cells x) rfl _ _ rfl rfl (TN.Own.made TN.Cl.cells 2 61 W.heap.size W (Nat.le_refl _)) rfl (TN.SlAt.on HCW.out ((Below.refl _ _).alloc (Nat.le_refl _) _)) (by simpa using TN.SlAt.bound HCW.out) (by simp) ?_; intro v1 w1 ho1 hb1; rw [List.nil_append] at ho1; obtain ⟨p1, c1, rfl⟩ := Own.form (show Own TN.Cl.cells 2 61 W.heap.size w1 v1 cs from ho1); have HO1 := hid ho1; have HB1 := hid (((Below.refl W.heap.size W).alloc (Nat.le_refl _) _).trans hb1); clear ho1 hb1 y0 y0a))
  have hb3 : Below w1.heap.size w1 (w1.alloc (.cells #[.slice p1 cs.length c1, .slice none 0 0] 28)) := (Below.refl _ _).alloc (Nat.le_refl _) _
  have HK3 := hid (alloc_block w1 (.cells #[.slice p1 cs.length c1, .slice none 0 0] 28))
  have HZ3 : Hid ((w1.alloc (.cells #[.slice p1 cs.length c1, .slice none 0 0] 28)).heap.size = w1.heap.size + 1) := hid (by simp)
  have HBW := hid (HB.out.trans (HB1.out.mono HB.out.size))
  have HB3 := hid (TN.below_on HBW.out hb3)
  have HT3 := hid (block_on HT.out (HB1.out.trans (hb3.mono HB1.out.size)))
  have HO3 := hid (block_on HO.out (HB1.out.trans (hb3.mono HB1.out.size)))
  have HN3 := hid (block_on HN.out (HB1.out.trans (hb3.mono HB1.out.size)))
  have HC3 : Hid (TN.SlAt (fun b => W.heap.size ≤ b ∧ b < w1.heap.size) TN.Cl.cells 2 (w1.alloc (.cells #[.slice p1 cs.length c1, .slice none 0 0] 28)) (.slice p1 cs.length c1) cs) := hid (TN.SlAt.on (TN.SlAt.low (TN.Own.sl HO1.out TN.cl_len (TN.SlAt.bound HCW.out)) (by decide) TN.cl_len) hb3)
  have HWS := hid (lt_of_block HO.out)
  have HSz1 := hid HB1.out.size
  obtain ⟨N, hN⟩ : ∃ N, w1.heap.size = N := ⟨_, rfl⟩
  rw [hN] at HK3 HZ3 HC3 HSz1
  rw [hN]
  have HLw := hid HBW.out.size
  rw [hN] at HLw
  generalize w1.alloc (.cells #[.slice p1 cs.length c1, .slice none 0 0] 28) = w3 at *
  clear hb3 HO1 HB1 HT HO HN HCW hN HBW
  obtain ⟨m, hm⟩ : ∃ m, hs.length = m := ⟨_, rfl⟩
  have HMm := hid hm
  have hml : m ≤ 1000000 := by have := HLn.out; have := HRL.out; omega
  have HRo2 : Hid (TN.SlAt (fun b => b < w.heap.size) TN.one 1 w (.slice pr m cr) hs) := by rw [← hm]; exact HRo.out
  rw [hm] at HT3
  have mI : (m : Int) ≤ 1000000 := by omega
  clear HRo hm
  have HKb : Hid (∀ wr, Kp (fun b => b = N) w3 wr → Below w.heap.size w wr) := fun wr hk => HB3.out.trans (hk.below HB3.out.size (fun b e => by have := HLw.out; omega))
  go_loopw [8] (fun x wr => ∃ k : Nat, k ≤ m ∧ x = .int .i64 k ∧ Hid (∃ v hs', wr.heap[N]? = some (.cells #[.slice p1 cs.length c1, v] 28 (0, 0)) ∧ Rws (N + 1) wr v hs' ((rs.take k).filter (holdsX cs qs i))) ∧ Hid (Kp (fun b => b = N) w3 wr)) (fun x _ => m - (intOf x).toNat)
  case atStart => exact ⟨0, by omega, rfl, ⟨_, [], HK3.out, Rws.nil _ _⟩, Kp.refl _ _⟩
  case round =>
    obtain ⟨k, hk, rfl, HRs, HK⟩ := hrel
    obtain ⟨v, hs', hvb, hRs⟩ := HRs.out
    obtain ⟨pv, cv', rfl⟩ := hRs.own.form
    have HBr := hid (HKb.out wr HK.out)
    have HTr := hid (HK.out.blk HT3.out (by have := HLw.out; have := HWS.out; have := HSz1.out; omega))
    have HNr := hid (HK.out.blk HN3.out (by have := HLw.out; have := HWS.out; have := HSz1.out; omega))
    have HVb := hid hvb
    have HRs1 := hid hRs
    have y1 := block_cell HTr.out
    clear hvb hRs HRs
    by_cases hkm : k < m
    · have kI : (k : Int) < m := by omega
      have k0 : (0 : Int) ≤ k := by omega
      obtain ⟨h, hh⟩ : ∃ h, hs[k]? = some h := ⟨_, List.getElem?_eq_getElem (by have := HMm.out; omega)⟩
      obtain ⟨r, hrr⟩ : ∃ r, rs[k]? = some r := ⟨_, List.getElem?_eq_getElem (by have := HMm.out; have := HLn.out; omega)⟩
      have hrow := HRw.out k h r hh hrr
      obtain ⟨bh, oh, cellh⟩ : ∃ b o, pr = some ⟨b, o, none⟩ ∧ wr.cell? ⟨b, o + k, none⟩ = some h := by
        obtain ⟨p', c', e', -, -, hx⟩ := HRo2.out.on HBr.out
        cases e'
        obtain ⟨b, o, hp, -, hj⟩ := hx (by intro e; rw [e] at hh; simp at hh)
        exact ⟨b, o, hp, by have := hj k h hh 0 h rfl; simpa using this⟩
      obtain ⟨rfl, yh⟩ := cellh
      obtain ⟨ph, ch, eh, -⟩ := id hrow
      subst eh
      have HRow := hid hrow
      have HX := hid hrr
      have HFt := hid (filt_take (f := holdsX cs qs i) hrr)
      have HCall : Hid (∀ W, Below wr.heap.size wr W → Calls Try.prog 20 #[.agg #[.slice pn qs.length cn], .int .i64 i, .slice pc cs.length cc, .slice ph r.length ch] W fun e w' => e = .returned (.bool (holdsX cs qs i r)) ∧ Below W.heap.size W w') := hid (fun W hb => by
        have hbw := TN.below_on HBr.out hb
        exact rholds15_any i (qx_lt HQ.out hbw) HL.out ((TN.SlAt.on HCo.out hbw).imp (fun _ _ => trivial)) ((TN.SlAt.on HRow.out hbw).imp (fun _ _ => trivial)) (fun q hq hk => HZ.out q hq hk r (List.mem_of_getElem? HX.out)) HV.out)
      have yq := TN.regrown_cell (block_cell HNr.out 0)
      have yc := TN.regrown_cell (block_cell HTr.out 0)
      have yr := TN.regrown_cell (block_cell HTr.out 1)
      have yh' := TN.regrown_cell yh
      generalize holdsX cs qs i r = z at *
      clear hrow hrr hh
      go_upto_region 5 with fail
      refine wp_region_quiet_below (by kernel_rfl) (by kernel_rfl) ?_
      repeat (go_big_quiet_step (first | (go_at_call 20; exact Calls.regrown_of (HCall.out _ (below_regrown _ _ _)))))
      refine wpQuiet_nil ?_
      intro _ hw'
      obtain ⟨⟨dq, osq⟩, hw''⟩ := hw'
      subst hw''
      have HBg := hid (below_regrown wr dq osq)
      clear yq yc yr yh' y1
      have HVg := hid (block_on HVb.out HBg.out)
      have HTg := hid (block_on HTr.out HBg.out)
      have HRsg := hid (HRs1.out.on HBg.out)
      have HRowg := hid (HRow.out.on (TN.below_on HBr.out HBg.out))
      have yhg : (grow (redrawn wr dq) osq).cell? ⟨bh, oh + k, none⟩ = some (.slice ph r.length ch) := (HBg.out.cell (block_lt_of_cell yh)).trans yh
      have HKg := hid (HK.out.trans (Kp.of HBg.out))
      clear yh
      generalize grow (redrawn wr dq) osq = wg at *
      cases z with
      | false =>
        go_wp2_with fail
        go_roundw
        case rel => exact ⟨k + 1, by omega, by go_num, ⟨_, hs', HVg.out, by rw [HFt.out, if_neg (by decide)]; exact HRsg.out⟩, HKg.out⟩
        case measure => simp [intOf]; omega
      | true =>
        go_upto_region 6 with fail
        have hlv : hs'.length ≤ 1000000 := by
          rw [HRs1.out.len]
          exact Nat.le_trans (List.length_filter_le _ _) (by rw [List.length_take]; omega)
        have HLv := hid hlv
        have hba : Below wg.heap.size wg (wg.alloc (.cells #[] 39)).drew := ((Below.refl _ _).alloc (Nat.le_refl _) _).drew
        have HBa := hid hba
        have HOa := hid ((TN.Own.on (TN.Own.made TN.Vl.cells 11 39 wg.heap.size wg (Nat.le_refl _)) (Below.refl _ _).drew : TN.Own TN.Vl.cells 11 39 wg.heap.size (wg.alloc (.cells #[] 39)).drew _ _))
        have HRa := hid (TN.SlAt.on HRowg.out hba)
        have HBd : Hid ((([] : List TN.Vl).length + r.length) * TN.bsz 11 ≤ 140737488355328) := hid (by simpa using TN.SlAt.bound HRow.out)
        have HBd2 : Hid (r.length * TN.bsz 11 ≤ 140737488355328) := hid (TN.SlAt.bound HRow.out)
        have HZa : Hid (wg.heap.size ≤ (wg.alloc (.cells #[] 39)).drew.heap.size) := hid hba.size
        have t1 : wg.cell? ⟨N, 1, none⟩ = some (.slice pv hs'.length cv') := block_cell HVg.out 1
        have t2 : wg.cell? ⟨w.heap.size, 1, none⟩ = some (.slice (some ⟨bh, oh, none⟩) m cr) := block_cell HTg.out 1
        have hbe : Below wg.heap.size wg (wg.alloc (.cells #[] 39)) := (Below.refl _ _).alloc (Nat.le_refl _) _
        have t1e : (wg.alloc (.cells #[] 39)).cell? ⟨N, 1, none⟩ = some (.slice pv hs'.length cv') := (hbe.cell (block_lt_of_cell t1)).trans t1
        have t2e : (wg.alloc (.cells #[] 39)).cell? ⟨w.heap.size, 1, none⟩ = some (.slice (some ⟨bh, oh, none⟩) m cr) := (hbe.cell (block_lt_of_cell t2)).trans t2
        have t3e : (wg.alloc (.cells #[] 39)).cell? ⟨bh, oh + k, none⟩ = some (.slice ph r.length ch) := (hbe.cell (block_lt_of_cell yhg)).trans yhg
        have HSW := hid (HKg.out.size)
        clear hba hbe hlv
        go_region_law (first
          | (refine TN.step_app TN.elem48 TN.vl_len (fun x _ => TN.vl_cells x) rfl (.tmp 33) (.tmp 38) rfl rfl rfl HOa.out HRa.out HBd.out HZa.out ?_; intro v5 w5 ho hb hg; rw [List.nil_append] at ho; obtain ⟨p5, c5, e5⟩ := Own.form (show Own TN.Vl.cells 11 39 wg.heap.size w5 v5 r from ho); subst e5; have HX5 := hid (row_new ho HBd2.out); have HB5 := hid (HBa.out.trans hb); have hv5 := block_on HVg.out HB5.out; have HV5 := hid hv5; have y5 : w5.cell? ⟨N, 1, none⟩ = some (.slice pv hs'.length cv') := block_cell hv5 1; have y5a : ∀ A, (w5.alloc A).cell? ⟨N, 1, none⟩ = some (.slice pv hs'.length cv') := (fun A => Lib.cell?_alloc_some _ y5); have HRs5 := hid (HRsg.out.on HB5.out); clear ho hb hg hv5)
          | (refine step_appP elem_row (fun _ => rfl) (by intro y hy c hc; simp at hy; subst hy; simp [TN.one] at hc; subst hc; rfl) rfl (.tmp 32) (.tmp 40) rfl rfl rfl (HRs5.out.own.on ((Below.refl w5.heap.size w5).alloc (Nat.le_refl _) (.cells #[.slice p5 r.length c5] 33))) (Own.sl (Own.blk (enc := TN.one) (k := 1) (e := 33) (B := w5.heap.size) (w := w5.alloc (.cells #[.slice p5 r.length c5] 33)) (xs := [.slice p5 r.length c5]) (fun _ => rfl) (Nat.le_refl _) (alloc_block w5 _) (by unfold maxLen; simp)) (fun _ => rfl)) (by simp) (by have := HLv.out; simp; omega) (by decide) (by have := HB5.out.size; have := HSW.out; have := HZ3.out; rw [World.size_alloc]; omega) ?_; intro v7 w7 ho hg hat; have HR7 := hid ((HRs5.out.on ((Below.refl w5.heap.size w5).alloc (Nat.le_refl _) (.cells #[.slice p5 r.length c5] 33))).app (r := r) ((TN.SlAt.on HX5.out ((Below.refl w5.heap.size w5).alloc (Nat.le_refl _) (.cells #[.slice p5 r.length c5] 33))).imp (fun b hb => ⟨by have := HSW.out; have := HZ3.out; have := hb.1; omega, by have := hb.2; rw [World.size_alloc]; omega, fun e => by have := (HRsg.out.own.at e).2; have := hb.1; omega⟩)) ho hg hat); have hk7 : Kp (fun b => (Value.slice pv hs'.length cv').ownBlock = some b) (w5.alloc (.cells #[.slice p5 r.length c5] 33)) w7 := Kp.grown (T := fun b => (Value.slice pv hs'.length cv').ownBlock = some b) hg (fun b e => e); have hv7 := hk7.blk (block_on HV5.out ((Below.refl w5.heap.size w5).alloc (Nat.le_refl _) (.cells #[.slice p5 r.length c5] 33))) (fun e => by have := (HRsg.out.own.at e).1; omega); have HV7 := hid hv7; have HK7 := hid ((HKg.out.trans (Kp.of (HB5.out.trans (((Below.refl w5.heap.size w5).alloc (Nat.le_refl _) (.cells #[.slice p5 r.length c5] 33)).mono HB5.out.size)))).trans' hk7 (fun b hb e => by have := (HRsg.out.own.at e).1; have := HZ3.out; omega)); obtain ⟨p7, c7, e7⟩ := ho.form; have hl7 : (hs' ++ [Value.slice p5 r.length c5]).length = hs'.length + 1 := (by simp); rw [hl7] at e7; subst e7; have y7 := block_cell hv7; have f7 := block_frozen hv7; clear ho hg hat hk7 hv7 y5 y5a hl7))
        all_goals
          go_wp2_with fail
          exact ⟨⟨k + 1, by omega, by go_num, ⟨_, _, block_set HV7.out 1 _, by rw [HFt.out, if_pos rfl]; exact HR7.out.kp (Kp.set (T := fun b => b = N) rfl _) (fun b e => by omega)⟩, HK7.out.trans (Kp.set (T := fun b => b = N) rfl _)⟩, by simp [intOf]; omega⟩
    · have hkm' : k = m := by omega
      have kI : ¬ (k : Int) < m := by omega
      have HOr := hid (HK.out.blk HO3.out (by have := HLw.out; have := HWS.out; have := HSz1.out; omega))
      have hRf : Rws (N + 1) wr (.slice pv hs'.length cv') hs' (rs.filter (holdsX cs qs i)) := by
        have := HRs1.out
        rw [hkm', List.take_of_length_le (by have := HMm.out; have := HLn.out; omega)] at this
        exact this
      have HRf := hid hRf
      have HCr := hid (tnSl_kp HC3.out HK.out (fun b hb e => by have := hb.2; omega))
      have z1 := block_cell HVb.out
      have x4 := block_cell HOr.out
      have f4 := block_frozen HOr.out
      clear hRf hkm
      go_wp2_with fail
      have KF := block_set (block_set HOr.out 0 (.slice p1 cs.length c1)) 1 (.slice pv hs'.length cv')
      have hkf : Kp (fun b => b = w.heap.size + 1 + 1) wr ((wr.setCell ⟨w.heap.size + 1 + 1, 0, none⟩ (.slice p1 cs.length c1)).setCell ⟨w.heap.size + 1 + 1, 1, none⟩ (.slice pv hs'.length cv')) := (Kp.set (T := fun b => b = w.heap.size + 1 + 1) rfl _).trans (Kp.set (T := fun b => b = w.heap.size + 1 + 1) rfl _)
      have hws := HWS.out
      have hsz1 := HSz1.out
      have hlw := HLw.out
      have hwr := HK.out.size
      have hz3 := HZ3.out
      have hC9 := tnSl_kp HCr.out hkf (fun b hb (e : b = w.heap.size + 1 + 1) => by have := hb.1; omega)
      have hR9 := HRf.out.kp hkf (fun b (e : b = w.heap.size + 1 + 1) => by omega)
      have hBf : Below w.heap.size w ((wr.setCell ⟨w.heap.size + 1 + 1, 0, none⟩ (.slice p1 cs.length c1)).setCell ⟨w.heap.size + 1 + 1, 1, none⟩ (.slice pv hs'.length cv')) := HBr.out.trans (hkf.below HBr.out.size (fun b (e : b = w.heap.size + 1 + 1) => by omega))
      have hsf := hkf.size
      clear x4 f4 z1
      generalize ((wr.setCell ⟨w.heap.size + 1 + 1, 0, none⟩ (.slice p1 cs.length c1)).setCell ⟨w.heap.size + 1 + 1, 1, none⟩ (.slice pv hs'.length cv')) = WF at *
      refine bodyPost_ret (v := .agg #[.slice p1 cs.length c1, .slice pv hs'.length cv']) ?_ rfl ⟨_, _, hs', rfl, hC9.imp (fun b hb => ⟨by have := hb.1; omega, by have := hb.2; omega⟩), hR9.le (by omega), hBf⟩
      have kcf := block_cell KF
      clear KF
      simp [results, Try.results22, go_sem, kcf]
end Go.Proofs.Ytcidijjbcebcbaa.PD
namespace Go.Proofs.Ytcidijjbcebcbaa.PD
open Go.RowKit Go.Joins

theorem slAt_take {α : Type} {Q : Nat → Prop} {enc : α → List Value} {k : Nat} {w : World} {p : Option Addr} {n cap : Nat} {xs : List α} (h : SlAt Q enc k w (.slice p n cap) xs) (m : Nat) (hm : m ≤ n) : SlAt Q enc k w (.slice p m cap) (xs.take m) := by
  obtain ⟨p', cap', e, hc, hx⟩ := h
  cases e
  refine ⟨p, cap, by rw [List.length_take, Nat.min_eq_left hm], ⟨by rw [List.length_take]; omega, hc.2⟩, fun hne => ?_⟩
  obtain ⟨b, o, hp, hQ, hj⟩ := hx (by intro e; subst e; simp at hne)
  refine ⟨b, o, hp, hQ, fun j x hj' => hj j x ?_⟩
  rw [List.getElem?_take] at hj'
  split at hj'
  · exact hj'
  · cases hj'
theorem qx_take {Q : Nat → Prop} {w : World} {p : Option Addr} {n cap : Nat} {qs : List Nx} (h : Qx Q w (.slice p n cap) qs) (m : Nat) (hm : m ≤ n) : Qx Q w (.slice p m cap) (qs.take m) := ⟨slAt_take h.sl m hm, fun q hq => h.each q (List.mem_of_mem_take hq)⟩
set_option maxRecDepth 100000 in
set_option maxHeartbeats 1000000 in
theorem few5_q {Q : Nat → Prop} {nv : Value} {qs : List Nx} {w : World} (hq : Qx Q w nv qs) :
    Calls Try.prog 17 #[.agg #[nv]] w fun e w' => ∃ nv', e = .returned (.agg #[nv']) ∧ Qx Q w' nv' (qs.take 100) ∧ Below w.heap.size w w' := by
  have HQ := hid hq
  obtain ⟨p, cap, rfl, hc1, hc2⟩ := hq.sl.form
  unfold maxLen at hc2
  clear hq
  generalize hn : qs.length = n at *
  have HN := hid hn
  clear hn
  by_cases h : 100 < n
  · have g : (100 : Int) < (n : Int) := by omega
    have g2 : (100 : Nat) ≤ cap := by omega
    go_enter Try.func17, Try.ntmps17
    go_wp2
    have HB := hid (((Below.refl w.heap.size w).alloc (Nat.le_refl _) (.cells #[.slice p 100 cap] 24)).alloc (by simp) (.cells #[.slice p 100 cap] 24))
    refine bodyPost_ret (v := .agg #[.slice p 100 cap]) (by simp [results, Try.results17, go_sem]) rfl ⟨_, rfl, (qx_take HQ.out 100 (by omega)).kp (T := fun _ => False) (Kp.of HB.out) (fun _ _ => id), HB.out⟩
  · have g : ¬ (100 : Int) < (n : Int) := by omega
    go_enter Try.func17, Try.ntmps17
    go_wp2
    have HB := hid (((Below.refl w.heap.size w).alloc (Nat.le_refl _) (.cells #[.slice p n cap] 24)).alloc (by simp) (.cells #[.slice p n cap] 24))
    rw [List.take_of_length_le (l := qs) (by rw [HN.out]; omega)]
    refine bodyPost_ret (v := .agg #[.slice p n cap]) (by simp [results, Try.results17, go_sem]) rfl ⟨_, rfl, HQ.out.kp (T := fun _ => False) (Kp.of HB.out) (fun _ _ => id), HB.out⟩
end Go.Proofs.Ytcidijjbcebcbaa.PD
namespace Go.Proofs.Ytcidijjbcebcbaa
open Go.RowKit Go.Joins

section
variable {ts : List Tp} {d : Option PN} {i j j3 j7 j9 : Nat} {E E3 E7 E9 z9 : Int} {t3 t7 : Tp} {ns ns9 : List Np}
theorem take_ok {k : Int} {t : Tp} {E' : Int} (h : Cm (lf E i (takeS ts k i)) t j E') (hE : E' = 0) : E = 0 ∧ j = i + 1 ∧ takeS ts k i = .ok t j := by
  rcases h with ⟨h, h2⟩ | ⟨h, h2⟩
  · exact absurd hE h2
  · unfold lf at h
    split at h
    · rename_i hE0
      refine ⟨hE0, ?_, h⟩
      unfold takeS at h
      split at h
      · cases h; rfl
      · cases h
    · cases h
theorem not_test (hn : isW ts i wNot = false) (hw : isW ts i wOpen = false) : lf 0 i (notB ts d i ns) = (testS ts i).and fun n j => .ok (ns.length, ns ++ [n]) j := by
  unfold lf notB; rw [if_pos rfl, hn, hw, if_neg (by decide), if_neg (by decide)]
theorem test_nm (h : takeS ts 1 i = .ok t3 j3) : testS ts i = if isW ts j3 wHas then (textV ts (j3 + 1)).and fun v j => .ok { n0 with kind := 15, s := t3.s, vk := v.1, vn := v.2.1, vs := v.2.2 } j
  else (oneOfS ts howW j3).and fun k j => (valueS ts j).and fun v j => .ok { n0 with kind := 14, s := t3.s, n := 1 + (k : Int), vk := v.1, vn := v.2.1, vs := v.2.2 } j := by
  unfold testS nameS; rw [h]; rfl
theorem test_has (hn : isW ts i wNot = false) (hw : isW ts i wOpen = false) (h3 : Cm (lf 0 i (takeS ts 1 i)) t3 j3 E3) (hh : isE E3 ts j3 wHas = true) (h7 : Cm (lf E3 (j3 + 1) (takeS ts 3 (j3 + 1))) t7 j7 E7)
    (h9 : Cm2 (lf E7 j7 (.ok (ns.length, ns ++ [{ n0 with kind := 15, s := t3.s, vk := 2, vn := 0, vs := t7.s }]) j7)) z9 ns9 j9 E9) : Cm2 (lf 0 i (notB ts d i ns)) z9 ns9 j9 E9 := by
  have e3 := isE_E hh
  subst e3
  obtain ⟨-, -, h3⟩ := take_ok h3 rfl
  rw [not_test hn hw, test_nm h3, if_pos (isE_W hh)]
  rcases h7 with ⟨h7, hE⟩ | ⟨h7, rfl⟩
  · unfold lf at h7; rw [if_pos rfl] at h7
    unfold lf at h9; rw [if_neg hE] at h9
    unfold textV; rw [h7]; exact h9
  · unfold lf at h7; rw [if_pos rfl] at h7
    unfold lf at h9; rw [if_pos rfl] at h9
    unfold textV; rw [h7]; exact h9
theorem test_bad (hn : isW ts i wNot = false) (hw : isW ts i wOpen = false) (h3 : Cm (lf 0 i (takeS ts 1 i)) t3 j3 E3) (hE : ¬ E3 = 0) : lf 0 i (notB ts d i ns) = .bad j3 E3 := by
  rcases h3 with ⟨h3, -⟩ | ⟨-, h3⟩
  · unfold lf at h3; rw [if_pos rfl] at h3
    rw [not_test hn hw]; unfold testS nameS; rw [h3]; rfl
  · exact absurd h3 hE
theorem idx_nil {ts : List Tp} {j : Nat} : ∀ (ws : List (List UInt8)) (k : Nat), (∀ m, m < ws.length → isW ts j (ws.getD m []) = false) → idxOf ts j ws k = none
  | [], _, _ => rfl
  | x :: r, k, h => by
    unfold idxOf
    have h0 := h 0 (by simp)
    simp only [List.getD_cons_zero] at h0
    rw [h0, if_neg (by decide)]
    exact idx_nil r (k + 1) (fun m hm => by have := h (m + 1) (by simpa using hm); simpa using this)
theorem idx_first {ts : List Tp} {j : Nat} : ∀ (ws : List (List UInt8)) (k n : Nat), n < ws.length → (∀ m, m < n → isW ts j (ws.getD m []) = false) → isW ts j (ws.getD n []) = true → idxOf ts j ws k = some (k + n)
  | [], _, n, h, _, _ => by simp at h
  | x :: r, k, 0, _, _, h2 => by
    unfold idxOf
    simp only [List.getD_cons_zero] at h2
    rw [h2, if_pos rfl]; rfl
  | x :: r, k, n + 1, h, h1, h2 => by
    unfold idxOf
    have h0 := h1 0 (by omega)
    simp only [List.getD_cons_zero] at h0
    rw [h0, if_neg (by decide), idx_first r (k + 1) n (by simpa using h) (fun m hm => by have := h1 (m + 1) (by omega); simpa using this) (by simpa using h2)]
    congr 1; omega
/- The loop over the signs: N is what was found. -/
def LpS (ts : List Tp) (E3 : Int) (j3 k N j : Nat) : Prop :=
  (N = 0 ∧ j = j3 ∧ ∀ m, m < k - 1 → isE E3 ts j3 (howW.getD m []) = false) ∨ (0 < N ∧ N ≤ 6 ∧ E3 = 0 ∧ j = j3 + 1 ∧ oneOfS ts howW j3 = .ok (N - 1) (j3 + 1))
theorem lps_no {k j : Nat} (h : LpS ts E3 j3 k 0 j) (hw : isE E3 ts j3 (howW.getD (k - 1) []) = false) : LpS ts E3 j3 (k + 1) 0 j := by
  rcases h with ⟨h1, h2, h3⟩ | ⟨h1, -⟩
  · refine .inl ⟨rfl, h2, fun m hm => ?_⟩
    rcases Nat.lt_or_ge m (k - 1) with h | h
    · exact h3 m h
    · rw [show m = k - 1 by omega]; exact hw
  · omega
theorem lps_yes {k j : Nat} (h : LpS ts E3 j3 k 0 j) (hk : 1 ≤ k) (hk7 : k < 7) (hw : isE E3 ts j3 (howW.getD (k - 1) []) = true) : LpS ts E3 j3 (k + 1) k (j + 1) := by
  rcases h with ⟨h1, rfl, h3⟩ | ⟨h1, -⟩
  · have hE := isE_E hw
    subst hE
    refine .inr ⟨by omega, by omega, rfl, rfl, ?_⟩
    unfold oneOfS
    rw [idx_first howW 0 (k - 1) (by show k - 1 < 6; omega) (fun m hm => isE_false (h3 m hm) rfl) (isE_W hw), Nat.zero_add]
  · omega
theorem lps_at {k j : Nat} (h : LpS ts E3 j3 k 0 j) : j = j3 := by
  rcases h with ⟨-, h, -⟩ | ⟨h, -⟩
  · exact h
  · omega
theorem test_none {j : Nat} (hn : isW ts i wNot = false) (hw : isW ts i wOpen = false) (h3 : Cm (lf 0 i (takeS ts 1 i)) t3 j3 E3) (hh : isE E3 ts j3 wHas = false) (hl : LpS ts E3 j3 7 0 j) : Cm2 (lf 0 i (notB ts d i ns)) 0 ns j (erS E3 120) := by
  rcases hl with ⟨-, rfl, hl⟩ | ⟨h, -⟩
  · by_cases hE : E3 = 0
    · subst hE
      obtain ⟨-, -, h3⟩ := take_ok h3 rfl
      rw [not_test hn hw, test_nm h3, isE_false hh rfl, if_neg (by decide)]
      unfold oneOfS
      rw [idx_nil howW 0 (fun m hm => isE_false (hl m hm) rfl)]
      exact .inl ⟨rfl, by decide⟩
    · rw [test_bad hn hw h3 hE]
      have e : erS E3 120 = E3 := if_neg hE
      rw [e]; exact .inl ⟨rfl, hE⟩
  · omega
theorem test_cmp {N k j jv : Nat} {Ev : Int} {x : Int × Int × List UInt8} (hn : isW ts i wNot = false) (hw : isW ts i wOpen = false) (h3 : Cm (lf 0 i (takeS ts 1 i)) t3 j3 E3) (hh : isE E3 ts j3 wHas = false) (hl : LpS ts E3 j3 k N j) (hN : 0 < N) (hv : Cm (lf E3 j (valueS ts j)) x jv Ev)
    (h9 : Cm2 (lf Ev jv (.ok (ns.length, ns ++ [{ n0 with kind := 14, s := t3.s, n := (N : Int), vk := x.1, vn := x.2.1, vs := x.2.2 }]) jv)) z9 ns9 j9 E9) : Cm2 (lf 0 i (notB ts d i ns)) z9 ns9 j9 E9 := by
  rcases hl with ⟨h, -⟩ | ⟨-, hN6, rfl, rfl, ho⟩
  · omega
  · obtain ⟨-, -, h3⟩ := take_ok h3 rfl
    rw [not_test hn hw, test_nm h3, isE_false hh rfl, if_neg (by decide), ho]
    have e : (1 : Int) + ((N - 1 : Nat) : Int) = (N : Int) := by omega
    simp only [Rs.and, e]
    rcases hv with ⟨hv, hE⟩ | ⟨hv, rfl⟩
    · unfold lf at hv; rw [if_pos rfl] at hv
      unfold lf at h9; rw [if_neg hE] at h9
      rw [hv]; exact h9
    · unfold lf at hv; rw [if_pos rfl] at hv
      unfold lf at h9; rw [if_pos rfl] at h9
      rw [hv]; exact h9
theorem value_len {j jv : Nat} {Ev : Int} {x : Int × Int × List UInt8} (hv : Cm (lf E j (valueS ts j)) x jv Ev) (hE : Ev = 0) : j + 1 ≤ jv := by
  rcases hv with ⟨-, h⟩ | ⟨h, -⟩
  · exact absurd hE h
  · unfold lf at h
    split at h
    · exact (value_go ts _ _ _ h).1
    · cases h
theorem lps_ge {k N j : Nat} (h : LpS ts E3 j3 k N j) : j3 ≤ j := by
  rcases h with ⟨-, rfl, -⟩ | ⟨-, -, -, rfl, -⟩ <;> omega
end
abbrev hwC : Array Value := #[.string ⟨#[]⟩, .string ⟨#[61]⟩, .string ⟨#[33, 61]⟩, .string ⟨#[60]⟩, .string ⟨#[60, 61]⟩, .string ⟨#[62]⟩, .string ⟨#[62, 61]⟩]
theorem hwC_at (k : Nat) (h1 : 1 ≤ k) (h : k < 7) : hwC[k]? = some (.string (St (howW.getD (k - 1) []))) := by
  match k, h1, h with
  | 1, _, _ => rfl
  | 2, _, _ => rfl
  | 3, _, _ => rfl
  | 4, _, _ => rfl
  | 5, _, _ => rfl
  | 6, _, _ => rfl
end Go.Proofs.Ytcidijjbcebcbaa
namespace Go.Proofs.Ytcidijjbcebcbaa
open Go.RowKit Go.Joins

section
variable {B : Nat} {ts : List Tp} {w w' : World} {rb : Nat} {tv sv : Value} {E : Int} {o i : Nat} {qs : List Nd}
set_option maxRecDepth 100000 in
set_option maxHeartbeats 2000000 in
theorem rnot_test {d : Option PN} (h : Ry B ts w rb tv sv 0 o i qs) (hn : isW ts i wNot = false) (hw : isW ts i wOpen = false) : Calls Try.prog 113 #[dp rb] w (Y2 B ts rb tv sv o w (lf 0 i (notB ts d i (qs.map (·.np))))) := by
  have k0 := h.cell
  have HQL := hid h.ql
  have HLt := hid h.lt
  have HN := hid hn
  have HW := hid hw
  have HS := hid (rsees_no h (x := wNot) hn)
  have hf1 := fld1
  have M1 : Hid True := trivial
  generalize hT : lf 0 i (notB ts d i (qs.map (·.np))) = T at *
  have HTt := hid hT
  clear h hw hn hT
  go_enter Try.func113, Try.ntmps113
  go_upto_region 15 with (first
    | (refine store_nd (q := bare { n0 with kind := 14, s := t3.s }) rfl _ _ rfl rfl rfl (bare_all _) (alloc_block w3 _) rfl ?_; intro w4 h4 k4; have HB4 := hid (Bn.start2 HQ3.out HK3.out.r (At.refl w sv) HLt.out h4 k4); clear h4 k4)
    | (go_at_call 87; have FIRST := M1; refine HS.out.mono ?_; rintro e w1 ⟨rfl, hq, hk⟩; have HQ1 := hid hq; have HK1 := hid hk; clear hq hk M1 FIRST)
    | (go_at_call 87; refine (rsees_no HQ1.out (x := wOpen) HW.out).mono ?_; rintro e w2 ⟨rfl, hq, hk⟩; have HQ2 := hid hq; have HK2 := hid (HK1.out.trans hk); clear hq hk)
    | (go_at_call 134; refine (rkind_any HQ2.out 1).mono ?_; rintro e w3 ⟨hk, t3, v3, E3, j3, rfl, hv3, hq, hc⟩; obtain rfl := hv3; have HK3 := hid (HK2.out.trans hk); have HQ3 := hid hq; have HC3 := hid hc; clear hk hq hc))
  clear HS HQ1 HK1 HQ2 HK2 HQ3 HK3 k0
  generalize w3.heap.size = nb at *
  cases hh : isE E3 ts j3 wHas with
  | true =>
    have HH := hid hh
    clear hh
    go_wp2_with (first
      | (refine store_nv (c := (2, 0, t7.s)) rfl _ _ rfl rfl rfl HB7.out.b ?_; intro w8 h8 k8; have HB8 := hid (HB7.out.set (q' := bare { n0 with kind := 15, s := t3.s, vk := 2, vn := 0, vs := t7.s }) h8 k8); clear h8 k8)
      | (refine load_node (q := bare { n0 with kind := 15, s := t3.s, vk := 2, vn := 0, vs := t7.s }) rfl _ rfl rfl HB8.out.b ?_)
      | (go_at_call 87; refine (rsees_yes HB4.out.r (x := wHas) HH.out).mono ?_; rintro e w5 ⟨rfl, hq, hk⟩; have HB5 := hid (HB4.out.y1 hk hq); have HB6 := hid (HB5.out.set1 (q' := bare { n0 with kind := 15, s := t3.s }) 0 (.int .i64 15) (by kernel_rfl)); have c5 := block_cell HB5.out.b 0; have z5 := block_frozen HB5.out.b 0; clear hq hk)
      | (go_at_call 134; clear c5 z5; refine (rkind_any HB6.out.r 3).mono ?_; rintro e w7 ⟨hk, t7, v7, E7, j7, rfl, hv7, hq, hc⟩; obtain rfl := hv7; have HB7 := hid (HB6.out.y1 hk hq); have HC7 := hid hc; clear hk hq hc)
      | (go_at_call 88; refine (rlay_any HB8.out.r (bare_in _ _ rfl rfl rfl) (fun e => by have h1 := take_ok HC7.out e; have h2 := take_ok HC3.out h1.1; have := HQL.out; omega)).mono ?_; rintro e w9 ⟨hk, z9, E9, j9, sv9, qs9, rfl, hz9, hq, ha, hc⟩; have HB9 := hid (HB8.out.y2 hk ha hq); have HC9 := hid hc; have HZ9 := hid hz9; clear hk hq hc ha hz9))
    go_ret
    refine ⟨HB9.out.k, z9, E9, j9, sv9, qs9, rfl, HZ9.out, HB9.out.r, HB9.out.a, ?_⟩
    rw [← HTt.out]
    exact test_has HN.out HW.out HC3.out HH.out HC7.out (by have := HC9.out; simpa using this)
  | false =>
    have HH := hid hh
    clear hh
    go_upto_region 20 with (go_at_call 87; refine (rsees_no HB4.out.r (x := wHas) HH.out).mono ?_; rintro e w5 ⟨rfl, hq, hk⟩; have HB5 := hid ((HB4.out.y1 hk hq).on ((Below.refl _ _).alloc (Nat.le_refl _) (.cells hwC 9))); have HG := hid (alloc_block w5 (.cells hwC 9)); have HNr : Hid (w5.heap.size ≠ rb) := (fun e => by have := hq.lt; omega); have HNn : Hid (w5.heap.size ≠ nb) := (fun e => by have := lt_of_block (HB4.out.y1 hk hq).b; omega); clear hq hk)
    generalize w5.alloc (.cells hwC 9) = W5 at *
    generalize w5.heap.size = sg at *
    clear HB4
    go_upto_region 21 with fail
    go_loopw [7] (fun u wr => ∃ (k N j : Nat), u = .int .i64 k ∧ (1 : Int) ≤ k ∧ (k : Int) ≤ 7 ∧ Hid (LpS ts E3 j3 k N j) ∧ Hid (Bn B ts w rb tv sv sv E3 o j qs nb (bare { n0 with kind := 14, s := t3.s, n := (N : Int) }) wr) ∧ Hid (wr.heap[sg]? = some (.cells hwC 9))) (fun u _ => 7 - (intOf u).toNat)
    case atStart => exact ⟨1, 0, j3, rfl, by omega, by omega, .inl ⟨rfl, rfl, fun m hm => by omega⟩, HB5.out, HG.out⟩
    case round =>
      obtain ⟨k, N, j, rfl, hk1, hk7, HL, HBr, HGr⟩ := hrel
      clear HB5 HG
      by_cases hN : N = 0
      · subst hN
        have cN : wr.cell? ⟨nb, 2, none⟩ = some (.int .i64 0) := block_cell HBr.out.b 2
        by_cases h7 : k < 7
        · have kI : (k : Int) < 7 := by omega
          have k0 : (0 : Int) ≤ k := by omega
          have cS := (block_cell HGr.out k).trans (hwC_at k (by omega) h7)
          have H7 := hid h7
          have HJ := hid (lps_at HL.out)
          cases hs : isE E3 ts j3 (howW.getD (k - 1) []) with
          | true =>
            have HSs := hid hs
            have HLy := hid (lps_yes HL.out (by omega) h7 hs)
            clear hs h7
            go_wp2_with (go_at_call 87; refine (rsees_yes HBr.out.r (x := howW.getD (k - 1) []) (by rw [HJ.out]; exact HSs.out)).mono ?_; rintro e w6 ⟨rfl, hq, hk⟩; have HB6 := hid (HBr.out.y1 hk hq); have HG6 := hid (hk.blk HGr.out HNr.out); have c6 := block_cell HB6.out.b 2; have z6 := block_frozen HB6.out.b 2; clear hq hk)
            go_roundw
            case rel => exact ⟨k + 1, k, j + 1, by simp, by omega, by omega, HLy.out, HB6.out.set1 (q' := bare { n0 with kind := 14, s := t3.s, n := (k : Int) }) 2 (.int .i64 k) (by kernel_rfl), (Kp.set (T := fun x => x = nb) rfl _).blk HG6.out HNn.out⟩
            case measure => simp [intOf]; have := H7.out; omega
          | false =>
            have HSs := hid hs
            have HLn := hid (lps_no HL.out hs)
            clear hs h7
            go_wp2_with (go_at_call 87; refine (rsees_no HBr.out.r (x := howW.getD (k - 1) []) (by rw [HJ.out]; exact HSs.out)).mono ?_; rintro e w6 ⟨rfl, hq, hk⟩; have HB6 := hid (HBr.out.y1 hk hq); have HG6 := hid (hk.blk HGr.out HNr.out); clear hq hk)
            go_roundw
            case rel => exact ⟨k + 1, 0, j, by simp, by omega, by omega, HLn.out, HB6.out, HG6.out⟩
            case measure => simp [intOf]; have := H7.out; omega
        · obtain rfl : k = 7 := by omega
          clear h7 hk1 hk7
          go_wp2_with (go_at_call 89; refine (rfail_any HBr.out.r).mono ?_; rintro e w6 ⟨rfl, hq, hk⟩; have HB6 := hid (HBr.out.y1 hk hq); clear hq hk)
          go_ret
          refine ⟨HB6.out.k, 0, _, _, sv, qs, rfl, by omega, HB6.out.r, HB6.out.a, ?_⟩
          rw [← HTt.out]
          exact test_none HN.out HW.out HC3.out HH.out HL.out
      · have cN : wr.cell? ⟨nb, 2, none⟩ = some (.int .i64 (N : Int)) := block_cell HBr.out.b 2
        have N0 : ((N : Int) == 0) = false := by simp; omega
        have HNp : Hid (0 < N) := Nat.pos_of_ne_zero hN
        have dk : decide ((k : Int) < 7) = true ∨ decide ((k : Int) < 7) = false := by cases decide ((k : Int) < 7) <;> simp
        clear hN
        rcases dk with dk | dk
        all_goals
          (go_wp2_with (first
            | (refine store_nv (c := x7) rfl _ _ rfl rfl rfl HB7.out.b ?_; intro w8 h8 k8; have HB8 := hid (HB7.out.set (q' := bare { n0 with kind := 14, s := t3.s, n := (N : Int), vk := x7.1, vn := x7.2.1, vs := x7.2.2 }) h8 k8); clear h8 k8)
            | (refine load_node (q := bare { n0 with kind := 14, s := t3.s, n := (N : Int), vk := x7.1, vn := x7.2.1, vs := x7.2.2 }) rfl _ rfl rfl HB8.out.b ?_)
            | (go_at_call 135; refine (rvalue_any HBr.out.r).mono ?_; rintro e w7 ⟨hk, x7, v7, E7, j7, rfl, hv7, hq, hc⟩; obtain rfl := hv7; have HB7 := hid (HBr.out.y1 hk hq); have HC7 := hid hc; clear hk hq hc)
            | (go_at_call 88; refine (rlay_any HB8.out.r (bare_in _ _ rfl rfl rfl) (fun e => by have h1 := value_len HC7.out e; have h2 := lps_ge HL.out; have := HQL.out; have := HBr.out.r.ql; omega)).mono ?_; rintro e w9 ⟨hk, z9, E9, j9, sv9, qs9, rfl, hz9, hq, ha, hc⟩; have HB9 := hid (HB8.out.y2 hk ha hq); have HC9 := hid hc; have HZ9 := hid hz9; clear hk hq hc ha hz9))
           go_ret
           refine ⟨HB9.out.k, z9, E9, j9, sv9, qs9, rfl, HZ9.out, HB9.out.r, HB9.out.a, ?_⟩
           rw [← HTt.out]
           exact test_cmp HN.out HW.out HC3.out HH.out HL.out HNp.out HC7.out (by have := HC9.out; simpa using this))
/- The smallest conditions, and all conditions, at any depth. -/
theorem rnot_any {d : Option PN} (hd : DeepY 113 B ts rb tv o d) (h : Ry B ts w rb tv sv E o i qs) : Calls Try.prog 113 #[dp rb] w (Y2 B ts rb tv sv o w (lf E i (notB ts d i (qs.map (·.np))))) := by
  by_cases hE : E = 0
  · subst hE
    cases hn : isW ts i wNot with
    | true => exact rnot_not hd h hn
    | false =>
      cases hw : isW ts i wOpen with
      | true => exact rnot_open hd h hn hw
      | false => exact rnot_test h hn hw
  · refine (rnot_err h hE).mono ?_
    rintro e w' ⟨rfl, rfl⟩
    exact ⟨Kp.refl _ _, 0, E, i, sv, qs, rfl, by omega, h, At.refl _ _, .inl ⟨if_neg hE, hE⟩⟩
theorem rnotS : ∀ n : Nat, n ≤ 16 → PNy 113 B ts rb tv (16 - n) (notS ts n)
  | 0, _ => fun _ _ _ _ _ _ h => rnot_any (d := none) (show 16 - 0 = 16 from rfl) h
  | n + 1, hn => fun _ _ _ _ _ _ h => rnot_any (d := some (notS ts n)) ⟨by omega, by rw [show 16 - (n + 1) + 1 = 16 - n by omega]; exact rnotS n (by omega), not_go ts n⟩ h
theorem rcondS (n : Nat) (hn : n ≤ 16) : PNy 52 B ts rb tv (16 - n) (condS ts n) := rcondB_any (rnotS n hn) (not_go ts n)
end
end Go.Proofs.Ytcidijjbcebcbaa
