/-
  The reference's Where.
  What few returns.
  slices.SortFunc of rows, as the kit's shelf has it.
  What Go's slices.SortFunc leaves of rows: canonical order.
  What table.inOrder returns, whatever function makes the rows anew.
  What table.Canon returns, for every table.
-/
import Derived.Test.YtcidijjbcebcbaaGreatProg
import Derived.Test.YtcidijjbcebcbaaGreatKF07
import Derived.Test.YtcidijjbcebcbaaGreatKF08
import Derived.Test.YtcidijjbcebcbaaGreatKF11
import Derived.Test.YtcidijjbcebcbaaGreatKF14
import Derived.Test.YtcidijjbcebcbaaGreatKF16
import Derived.Shelf.SlSortCmp.NoneTotal
import Derived.Laws.MakeOwn
import Derived.Deep.RegionHeld
import Derived.Deep.Heap
namespace Go.Proofs.YtcidijjbcebcbaaGreat.PD
open Go.RowKit Go.Joins Go.Sort

theorem row_new {B : Nat} {w : World} {v : Value} {r : TN.Rw} (h : TN.Own TN.Vl.cells 11 52 B w v r) (hb : r.length * TN.bsz 11 ≤ 140737488355328) : TN.RowIn (fun b => B ≤ b ∧ b < w.heap.size) w v r :=
  (TN.SlAt.low (TN.Own.sl h TN.vl_len hb) (by decide) TN.vl_len).imp (fun b hb => hb)
set_option maxRecDepth 100000 in
set_option maxHeartbeats 16000000 in
theorem rwhere15_any {i : Int} {nv cv rv : Value} {qs : List Nx} {cs : List TN.Cl} {rs : List TN.Rw} {hs : List Value} {w : World} (hq : Qx (fun b => b < w.heap.size) w nv qs) (hl : qs.length ≤ 1000) (hc : TN.ColsAt w cv cs) (hr : TN.SlAt TN.any TN.one 1 w rv hs) (hh : TN.HeadsIn TN.any w hs rs) (hz : ∀ q ∈ qs, q.np.kind = 15 → ∀ r ∈ rs, Rsz r) (hvs : ∀ q ∈ qs, (St q.np.vs).size ≤ 1000000000000) (hrl : rs.length ≤ 1000000) : Calls Tryz.prog 17 #[.agg #[cv, rv], .agg #[nv], .int .i64 i] w (WhP' cs (rs.filter (holdsX cs qs i)) w) := by
  obtain ⟨pn, cn, rfl, -, -⟩ := hq.sl.form
  obtain ⟨pc, cc, hpc, -⟩ := id hc
  obtain ⟨pr, cr, hpr, -⟩ := id hr
  subst hpc hpr
  obtain ⟨W, hW⟩ : ∃ W, W = ((w.alloc (.cells #[.slice pc cs.length cc, .slice pr hs.length cr] 25)).alloc (.cells #[.slice pn qs.length cn] 28)).alloc (.cells #[.slice none 0 0, .slice none 0 0] 25) := ⟨_, rfl⟩
  have hb1 : Below w.heap.size w (w.alloc (.cells #[.slice pc cs.length cc, .slice pr hs.length cr] 25)) := (Below.refl _ _).alloc (Nat.le_refl _) _
  have hb2 : Below w.heap.size w W := by rw [hW]; exact (hb1.alloc hb1.size _).alloc (Nat.le_trans hb1.size (by simp)) _
  have hT : W.heap[w.heap.size]? = some (.cells #[.slice pc cs.length cc, .slice pr hs.length cr] 25 (0, 0)) := by
    rw [hW]
    exact block_on (block_on (alloc_block w _) ((Below.refl _ _).alloc (Nat.le_refl _) _)) ((Below.refl _ _).alloc (Nat.le_refl _) _)
  have hO : W.heap[w.heap.size + 1 + 1]? = some (.cells #[.slice none 0 0, .slice none 0 0] 25 (0, 0)) := by
    rw [hW]
    have := alloc_block ((w.alloc (.cells #[.slice pc cs.length cc, .slice pr hs.length cr] 25)).alloc (.cells #[.slice pn qs.length cn] 28)) (.cells #[.slice none 0 0, .slice none 0 0] 25)
    simpa using this
  have hN : W.heap[w.heap.size + 1]? = some (.cells #[.slice pn qs.length cn] 28 (0, 0)) := by
    rw [hW]
    have := alloc_block (w.alloc (.cells #[.slice pc cs.length cc, .slice pr hs.length cr] 25)) (.cells #[.slice pn qs.length cn] 28)
    exact block_on (by simpa using this) ((Below.refl _ _).alloc (Nat.le_refl _) _)
  have HB := hid hb2
  have HCo := hid (tn_low hc (fun x => ⟨_, rfl⟩))
  have HRo := hid (tn_low hr (fun x => ⟨_, rfl⟩))
  have HRw : Hid (∀ (j : Nat) h r, hs[j]? = some h → rs[j]? = some r → TN.RowIn (fun b => b < w.heap.size) w h r) := fun j h r h1 h2 => row_lt (hh.2 j h r h1 h2)
  have HLn := hid hh.1
  have HQ := hid hq
  have HL := hid hl
  have HZ := hid hz
  have HV := hid hvs
  have HRL := hid hrl
  have HT := hid hT
  have HO := hid hO
  have HN := hid hN
  have HW := hid hW
  have y0 := block_cell hT
  have HCW := hid (TN.SlAt.on HCo.out hb2)
  clear hq hl hc hr hh hz hvs hb1 hb2 hT hO hN hW
  go_enter Tryz.func17, Tryz.ntmps17
  go_upto_region 1 with fail
  rw [← HW.out]
  clear HW
  have y0a : ∀ O o, (W.alloc O).cell? ⟨w.heap.size, o, none⟩ = W.cell? ⟨w.heap.size, o, none⟩ := fun O o => ((Below.refl W.heap.size W).alloc (Nat.le_refl _) O).cell (lt_of_block HT.out)
  go_upto_region 3 with (first | (at_builtin; refine TN.app_any TN.elem45 TN.cl_len (fun x _ => TN.cl_cells x) rfl _ _ rfl rfl (TN.Own.made TN.Cl.cells 2 48 W.heap.size W (Nat.le_refl _)) rfl (TN.SlAt.on HCW.out ((Below.refl _ _).alloc (Nat.le_refl _) _)) (by simpa using TN.SlAt.bound HCW.out) (by simp) ?_; intro v1 w1 ho1 hb1; rw [List.nil_append] at ho1; obtain ⟨p1, c1, rfl⟩ := Own.form (show Own TN.Cl.cells 2 48 W.heap.size w1 v1 cs from ho1); have HO1 := hid ho1; have HB1 := hid (((Below.refl W.heap.size W).alloc (Nat.le_refl _) _).trans hb1); clear ho1 hb1 y0 y0a))
  have hb3 : Below w1.heap.size w1 (w1.alloc (.cells #[.slice p1 cs.length c1, .slice none 0 0] 25)) := (Below.refl _ _).alloc (Nat.le_refl _) _
  have HK3 := hid (alloc_block w1 (.cells #[.slice p1 cs.length c1, .slice none 0 0] 25))
  have HZ3 : Hid ((w1.alloc (.cells #[.slice p1 cs.length c1, .slice none 0 0] 25)).heap.size = w1.heap.size + 1) := hid (by simp)
  have HBW := hid (HB.out.trans (HB1.out.mono HB.out.size))
  have HB3 := hid (TN.below_on HBW.out hb3)
  have HT3 := hid (block_on HT.out (HB1.out.trans (hb3.mono HB1.out.size)))
  have HO3 := hid (block_on HO.out (HB1.out.trans (hb3.mono HB1.out.size)))
  have HN3 := hid (block_on HN.out (HB1.out.trans (hb3.mono HB1.out.size)))
  have HC3 : Hid (TN.SlAt (fun b => W.heap.size ≤ b ∧ b < w1.heap.size) TN.Cl.cells 2 (w1.alloc (.cells #[.slice p1 cs.length c1, .slice none 0 0] 25)) (.slice p1 cs.length c1) cs) := hid (TN.SlAt.on (TN.SlAt.low (TN.Own.sl HO1.out TN.cl_len (TN.SlAt.bound HCW.out)) (by decide) TN.cl_len) hb3)
  have HWS := hid (lt_of_block HO.out)
  have HSz1 := hid HB1.out.size
  obtain ⟨N, hN⟩ : ∃ N, w1.heap.size = N := ⟨_, rfl⟩
  rw [hN] at HK3 HZ3 HC3 HSz1
  rw [hN]
  have HLw := hid HBW.out.size
  rw [hN] at HLw
  generalize w1.alloc (.cells #[.slice p1 cs.length c1, .slice none 0 0] 25) = w3 at *
  clear hb3 HO1 HB1 HT HO HN HCW hN HBW
  obtain ⟨m, hm⟩ : ∃ m, hs.length = m := ⟨_, rfl⟩
  have HMm := hid hm
  have hml : m ≤ 1000000 := by have := HLn.out; have := HRL.out; omega
  have HRo2 : Hid (TN.SlAt (fun b => b < w.heap.size) TN.one 1 w (.slice pr m cr) hs) := by rw [← hm]; exact HRo.out
  rw [hm] at HT3
  have mI : (m : Int) ≤ 1000000 := by omega
  clear HRo hm
  have HKb : Hid (∀ wr, Kp (fun b => b = N) w3 wr → Below w.heap.size w wr) := fun wr hk => HB3.out.trans (hk.below HB3.out.size (fun b e => by have := HLw.out; omega))
  go_loopw [8] (fun x wr => ∃ k : Nat, k ≤ m ∧ x = .int .i64 k ∧ Hid (∃ v hs', wr.heap[N]? = some (.cells #[.slice p1 cs.length c1, v] 25 (0, 0)) ∧ Rws (N + 1) wr v hs' ((rs.take k).filter (holdsX cs qs i))) ∧ Hid (Kp (fun b => b = N) w3 wr)) (fun x _ => m - (intOf x).toNat)
  case atStart => exact ⟨0, by omega, rfl, ⟨_, [], HK3.out, Rws.nil _ _⟩, Kp.refl _ _⟩
  case round =>
    obtain ⟨k, hk, rfl, HRs, HK⟩ := hrel
    obtain ⟨v, hs', hvb, hRs⟩ := HRs.out
    obtain ⟨pv, cv', rfl⟩ := hRs.own.form
    have HBr := hid (HKb.out wr HK.out)
    have HTr := hid (HK.out.blk HT3.out (by have := HLw.out; have := HWS.out; have := HSz1.out; omega))
    have HNr := hid (HK.out.blk HN3.out (by have := HLw.out; have := HWS.out; have := HSz1.out; omega))
    have HVb := hid hvb
    have HRs1 := hid hRs
    have y1 := block_cell HTr.out
    clear hvb hRs HRs
    by_cases hkm : k < m
    · have kI : (k : Int) < m := by omega
      have k0 : (0 : Int) ≤ k := by omega
      obtain ⟨h, hh⟩ : ∃ h, hs[k]? = some h := ⟨_, List.getElem?_eq_getElem (by have := HMm.out; omega)⟩
      obtain ⟨r, hrr⟩ : ∃ r, rs[k]? = some r := ⟨_, List.getElem?_eq_getElem (by have := HMm.out; have := HLn.out; omega)⟩
      have hrow := HRw.out k h r hh hrr
      obtain ⟨bh, oh, cellh⟩ : ∃ b o, pr = some ⟨b, o, none⟩ ∧ wr.cell? ⟨b, o + k, none⟩ = some h := by
        obtain ⟨p', c', e', -, -, hx⟩ := HRo2.out.on HBr.out
        cases e'
        obtain ⟨b, o, hp, -, hj⟩ := hx (by intro e; rw [e] at hh; simp at hh)
        exact ⟨b, o, hp, by have := hj k h hh 0 h rfl; simpa using this⟩
      obtain ⟨rfl, yh⟩ := cellh
      obtain ⟨ph, ch, eh, -⟩ := id hrow
      subst eh
      have HRow := hid hrow
      have HX := hid hrr
      have HFt := hid (filt_take (f := holdsX cs qs i) hrr)
      have HCall : Hid (∀ W, Below wr.heap.size wr W → Calls Tryz.prog 35 #[.agg #[.slice pn qs.length cn], .int .i64 i, .slice pc cs.length cc, .slice ph r.length ch] W fun e w' => e = .returned (.bool (holdsX cs qs i r)) ∧ Below W.heap.size W w') := hid (fun W hb => by
        have hbw := TN.below_on HBr.out hb
        exact rholds15_any i (qx_lt HQ.out hbw) HL.out ((TN.SlAt.on HCo.out hbw).imp (fun _ _ => trivial)) ((TN.SlAt.on HRow.out hbw).imp (fun _ _ => trivial)) (fun q hq hk => HZ.out q hq hk r (List.mem_of_getElem? HX.out)) HV.out)
      have yq := TN.regrown_cell (block_cell HNr.out 0)
      have yc := TN.regrown_cell (block_cell HTr.out 0)
      have yr := TN.regrown_cell (block_cell HTr.out 1)
      have yh' := TN.regrown_cell yh
      generalize holdsX cs qs i r = z at *
      clear hrow hrr hh
      go_upto_region 5 with fail
      refine wp_region_quiet_below (by kernel_rfl) (by kernel_rfl) ?_
      repeat (go_big_quiet_step (first | (go_at_call 35; exact Calls.regrown_of (HCall.out _ (below_regrown _ _ _)))))
      refine wpQuiet_nil ?_
      intro _ hw'
      obtain ⟨⟨dq, osq⟩, hw''⟩ := hw'
      subst hw''
      have HBg := hid (below_regrown wr dq osq)
      clear yq yc yr yh' y1
      have HVg := hid (block_on HVb.out HBg.out)
      have HTg := hid (block_on HTr.out HBg.out)
      have HRsg := hid (HRs1.out.on HBg.out)
      have HRowg := hid (HRow.out.on (TN.below_on HBr.out HBg.out))
      have yhg : (grow (redrawn wr dq) osq).cell? ⟨bh, oh + k, none⟩ = some (.slice ph r.length ch) := (HBg.out.cell (block_lt_of_cell yh)).trans yh
      have HKg := hid (HK.out.trans (Kp.of HBg.out))
      clear yh
      generalize grow (redrawn wr dq) osq = wg at *
      cases z with
      | false =>
        go_wp2_with fail
        go_roundw
        case rel => exact ⟨k + 1, by omega, by go_num, ⟨_, hs', HVg.out, by rw [HFt.out, if_neg (by decide)]; exact HRsg.out⟩, HKg.out⟩
        case measure => simp [intOf]; omega
      | true =>
        go_upto_region 6 with fail
        have hlv : hs'.length ≤ 1000000 := by
          rw [HRs1.out.len]
          exact Nat.le_trans (List.length_filter_le _ _) (by rw [List.length_take]; omega)
        have HLv := hid hlv
        have hba : Below wg.heap.size wg (wg.alloc (.cells #[] 52)).drew := ((Below.refl _ _).alloc (Nat.le_refl _) _).drew
        have HBa := hid hba
        have HOa := hid ((TN.Own.on (TN.Own.made TN.Vl.cells 11 52 wg.heap.size wg (Nat.le_refl _)) (Below.refl _ _).drew : TN.Own TN.Vl.cells 11 52 wg.heap.size (wg.alloc (.cells #[] 52)).drew _ _))
        have HRa := hid (TN.SlAt.on HRowg.out hba)
        have HBd : Hid ((([] : List TN.Vl).length + r.length) * TN.bsz 11 ≤ 140737488355328) := hid (by simpa using TN.SlAt.bound HRow.out)
        have HBd2 : Hid (r.length * TN.bsz 11 ≤ 140737488355328) := hid (TN.SlAt.bound HRow.out)
        have HZa : Hid (wg.heap.size ≤ (wg.alloc (.cells #[] 52)).drew.heap.size) := hid hba.size
        have t1 : wg.cell? ⟨N, 1, none⟩ = some (.slice pv hs'.length cv') := block_cell HVg.out 1
        have t2 : wg.cell? ⟨w.heap.size, 1, none⟩ = some (.slice (some ⟨bh, oh, none⟩) m cr) := block_cell HTg.out 1
        have hbe : Below wg.heap.size wg (wg.alloc (.cells #[] 52)) := (Below.refl _ _).alloc (Nat.le_refl _) _
        have t1e : (wg.alloc (.cells #[] 52)).cell? ⟨N, 1, none⟩ = some (.slice pv hs'.length cv') := (hbe.cell (block_lt_of_cell t1)).trans t1
        have t2e : (wg.alloc (.cells #[] 52)).cell? ⟨w.heap.size, 1, none⟩ = some (.slice (some ⟨bh, oh, none⟩) m cr) := (hbe.cell (block_lt_of_cell t2)).trans t2
        have t3e : (wg.alloc (.cells #[] 52)).cell? ⟨bh, oh + k, none⟩ = some (.slice ph r.length ch) := (hbe.cell (block_lt_of_cell yhg)).trans yhg
        have HSW := hid (HKg.out.size)
        clear hba hbe hlv
        go_region_law (first
          | (refine TN.step_app TN.elem48 TN.vl_len (fun x _ => TN.vl_cells x) rfl (.tmp 33) (.tmp 38) rfl rfl rfl HOa.out HRa.out HBd.out HZa.out ?_; intro v5 w5 ho hb hg; rw [List.nil_append] at ho; obtain ⟨p5, c5, e5⟩ := Own.form (show Own TN.Vl.cells 11 52 wg.heap.size w5 v5 r from ho); subst e5; have HX5 := hid (row_new ho HBd2.out); have HB5 := hid (HBa.out.trans hb); have hv5 := block_on HVg.out HB5.out; have HV5 := hid hv5; have y5 : w5.cell? ⟨N, 1, none⟩ = some (.slice pv hs'.length cv') := block_cell hv5 1; have y5a : ∀ A, (w5.alloc A).cell? ⟨N, 1, none⟩ = some (.slice pv hs'.length cv') := (fun A => Lib.cell?_alloc_some _ y5); have HRs5 := hid (HRsg.out.on HB5.out); clear ho hb hg hv5)
          | (refine step_appP elem_row (fun _ => rfl) (by intro y hy c hc; simp at hy; subst hy; simp [TN.one] at hc; subst hc; rfl) rfl (.tmp 32) (.tmp 40) rfl rfl rfl (HRs5.out.own.on ((Below.refl w5.heap.size w5).alloc (Nat.le_refl _) (.cells #[.slice p5 r.length c5] 45))) (Own.sl (Own.blk (enc := TN.one) (k := 1) (e := 45) (B := w5.heap.size) (w := w5.alloc (.cells #[.slice p5 r.length c5] 45)) (xs := [.slice p5 r.length c5]) (fun _ => rfl) (Nat.le_refl _) (alloc_block w5 _) (by unfold maxLen; simp)) (fun _ => rfl)) (by simp) (by have := HLv.out; simp; omega) (by decide) (by have := HB5.out.size; have := HSW.out; have := HZ3.out; rw [World.size_alloc]; omega) ?_; intro v7 w7 ho hg hat; have HR7 := hid ((HRs5.out.on ((Below.refl w5.heap.size w5).alloc (Nat.le_refl _) (.cells #[.slice p5 r.length c5] 45))).app (r := r) ((TN.SlAt.on HX5.out ((Below.refl w5.heap.size w5).alloc (Nat.le_refl _) (.cells #[.slice p5 r.length c5] 45))).imp (fun b hb => ⟨by have := HSW.out; have := HZ3.out; have := hb.1; omega, by have := hb.2; rw [World.size_alloc]; omega, fun e => by have := (HRsg.out.own.at e).2; have := hb.1; omega⟩)) ho hg hat); have hk7 : Kp (fun b => (Value.slice pv hs'.length cv').ownBlock = some b) (w5.alloc (.cells #[.slice p5 r.length c5] 45)) w7 := Kp.grown (T := fun b => (Value.slice pv hs'.length cv').ownBlock = some b) hg (fun b e => e); have hv7 := hk7.blk (block_on HV5.out ((Below.refl w5.heap.size w5).alloc (Nat.le_refl _) (.cells #[.slice p5 r.length c5] 45))) (fun e => by have := (HRsg.out.own.at e).1; omega); have HV7 := hid hv7; have HK7 := hid ((HKg.out.trans (Kp.of (HB5.out.trans (((Below.refl w5.heap.size w5).alloc (Nat.le_refl _) (.cells #[.slice p5 r.length c5] 45)).mono HB5.out.size)))).trans' hk7 (fun b hb e => by have := (HRsg.out.own.at e).1; have := HZ3.out; omega)); obtain ⟨p7, c7, e7⟩ := ho.form; have hl7 : (hs' ++ [Value.slice p5 r.length c5]).length = hs'.length + 1 := (by simp); rw [hl7] at e7; subst e7; have y7 := block_cell hv7; have f7 := block_frozen hv7; clear ho hg hat hk7 hv7 y5 y5a hl7))
        all_goals
          go_wp2_with fail
          exact ⟨⟨k + 1, by omega, by go_num, ⟨_, _, block_set HV7.out 1 _, by rw [HFt.out, if_pos rfl]; exact HR7.out.kp (Kp.set (T := fun b => b = N) rfl _) (fun b e => by omega)⟩, HK7.out.trans (Kp.set (T := fun b => b = N) rfl _)⟩, by simp [intOf]; omega⟩
    · have hkm' : k = m := by omega
      have kI : ¬ (k : Int) < m := by omega
      have HOr := hid (HK.out.blk HO3.out (by have := HLw.out; have := HWS.out; have := HSz1.out; omega))
      have hRf : Rws (N + 1) wr (.slice pv hs'.length cv') hs' (rs.filter (holdsX cs qs i)) := by
        have := HRs1.out
        rw [hkm', List.take_of_length_le (by have := HMm.out; have := HLn.out; omega)] at this
        exact this
      have HRf := hid hRf
      have HCr := hid (tnSl_kp HC3.out HK.out (fun b hb e => by have := hb.2; omega))
      have z1 := block_cell HVb.out
      have x4 := block_cell HOr.out
      have f4 := block_frozen HOr.out
      clear hRf hkm
      go_wp2_with fail
      have KF := block_set (block_set HOr.out 0 (.slice p1 cs.length c1)) 1 (.slice pv hs'.length cv')
      have hkf : Kp (fun b => b = w.heap.size + 1 + 1) wr ((wr.setCell ⟨w.heap.size + 1 + 1, 0, none⟩ (.slice p1 cs.length c1)).setCell ⟨w.heap.size + 1 + 1, 1, none⟩ (.slice pv hs'.length cv')) := (Kp.set (T := fun b => b = w.heap.size + 1 + 1) rfl _).trans (Kp.set (T := fun b => b = w.heap.size + 1 + 1) rfl _)
      have hws := HWS.out
      have hsz1 := HSz1.out
      have hlw := HLw.out
      have hwr := HK.out.size
      have hz3 := HZ3.out
      have hC9 := tnSl_kp HCr.out hkf (fun b hb (e : b = w.heap.size + 1 + 1) => by have := hb.1; omega)
      have hR9 := HRf.out.kp hkf (fun b (e : b = w.heap.size + 1 + 1) => by omega)
      have hBf : Below w.heap.size w ((wr.setCell ⟨w.heap.size + 1 + 1, 0, none⟩ (.slice p1 cs.length c1)).setCell ⟨w.heap.size + 1 + 1, 1, none⟩ (.slice pv hs'.length cv')) := HBr.out.trans (hkf.below HBr.out.size (fun b (e : b = w.heap.size + 1 + 1) => by omega))
      have hsf := hkf.size
      clear x4 f4 z1
      generalize ((wr.setCell ⟨w.heap.size + 1 + 1, 0, none⟩ (.slice p1 cs.length c1)).setCell ⟨w.heap.size + 1 + 1, 1, none⟩ (.slice pv hs'.length cv')) = WF at *
      refine bodyPost_ret (v := .agg #[.slice p1 cs.length c1, .slice pv hs'.length cv']) ?_ rfl ⟨_, _, hs', rfl, hC9.imp (fun b hb => ⟨by have := hb.1; omega, by have := hb.2; omega⟩), hR9.le (by omega), hBf⟩
      have kcf := block_cell KF
      clear KF
      simp [results, Tryz.results17, go_sem, kcf]
end Go.Proofs.YtcidijjbcebcbaaGreat.PD
namespace Go.Proofs.YtcidijjbcebcbaaGreat.PD
open Go.RowKit Go.Joins

theorem slAt_take {α : Type} {Q : Nat → Prop} {enc : α → List Value} {k : Nat} {w : World} {p : Option Addr} {n cap : Nat} {xs : List α} (h : SlAt Q enc k w (.slice p n cap) xs) (m : Nat) (hm : m ≤ n) : SlAt Q enc k w (.slice p m cap) (xs.take m) := by
  obtain ⟨p', cap', e, hc, hx⟩ := h
  cases e
  refine ⟨p, cap, by rw [List.length_take, Nat.min_eq_left hm], ⟨by rw [List.length_take]; omega, hc.2⟩, fun hne => ?_⟩
  obtain ⟨b, o, hp, hQ, hj⟩ := hx (by intro e; subst e; simp at hne)
  refine ⟨b, o, hp, hQ, fun j x hj' => hj j x ?_⟩
  rw [List.getElem?_take] at hj'
  split at hj'
  · exact hj'
  · cases hj'
theorem qx_take {Q : Nat → Prop} {w : World} {p : Option Addr} {n cap : Nat} {qs : List Nx} (h : Qx Q w (.slice p n cap) qs) (m : Nat) (hm : m ≤ n) : Qx Q w (.slice p m cap) (qs.take m) := ⟨slAt_take h.sl m hm, fun q hq => h.each q (List.mem_of_mem_take hq)⟩
end Go.Proofs.YtcidijjbcebcbaaGreat.PD
namespace Go.Proofs
open Go.Shelf
def Tryz.sortL_ren : Go.Shelf.Ren := ⟨fun | 6 => 56 | 15 => 74 | 14 => 73 | 28 => 95 | 29 => 96 | 20 => 58 | 21 => 88 | 22 => 89 | 23 => 90 | 24 => 91 | 25 => 92 | 26 => 93 | 27 => 94 | 46 => 100 | 47 => 101 | 48 => 102 | 49 => 103 | 50 => 104 | 57 => 109 | n => n, fun | 22 => 23 | 24 => 45 | 25 => 44 | 3 => 3 | 39 => 90 | 0 => 0 | 53 => 107 | 55 => 109 | 4 => 4 | 46 => 100 | 45 => 99 | 50 => 104 | 5 => 5 | 9 => 9 | 66 => 111 | 70 => 115 | 76 => 118 | 77 => 119 | n => n, fun | n => n⟩
theorem Tryz.sortL : Go.Proofs.SlLaysF.n6 Tryz.prog Tryz.sortL_ren := {
  mixed := by kernel_rfl
  f6 := ⟨Tryz.f56.name, by decide, Tryz.func56.trans (congrArg some (by kernel_rfl))⟩
  f14 := ⟨Tryz.f73.name, by decide, Tryz.func73.trans (congrArg some (by kernel_rfl))⟩
  f15 := Tryz.func74.trans (congrArg some (by kernel_rfl))
  f20 := ⟨Tryz.f58.name, by decide, Tryz.func58.trans (congrArg some (by kernel_rfl))⟩
  f21 := ⟨Tryz.f88.name, by decide, Tryz.func88.trans (congrArg some (by kernel_rfl))⟩
  f22 := ⟨Tryz.f89.name, by decide, Tryz.func89.trans (congrArg some (by kernel_rfl))⟩
  f23 := ⟨Tryz.f90.name, by decide, Tryz.func90.trans (congrArg some (by kernel_rfl))⟩
  f24 := ⟨Tryz.f91.name, by decide, Tryz.func91.trans (congrArg some (by kernel_rfl))⟩
  f25 := ⟨Tryz.f92.name, by decide, Tryz.func92.trans (congrArg some (by kernel_rfl))⟩
  f26 := ⟨Tryz.f93.name, by decide, Tryz.func93.trans (congrArg some (by kernel_rfl))⟩
  f27 := ⟨Tryz.f94.name, by decide, Tryz.func94.trans (congrArg some (by kernel_rfl))⟩
  f28 := Tryz.func95.trans (congrArg some (by kernel_rfl))
  f29 := Tryz.func96.trans (congrArg some (by kernel_rfl))
  f46 := ⟨Tryz.f100.name, by decide, Tryz.func100.trans (congrArg some (by kernel_rfl))⟩
  f47 := Tryz.func101.trans (congrArg some (by kernel_rfl))
  f48 := Tryz.func102.trans (congrArg some (by kernel_rfl))
  f49 := ⟨Tryz.f103.name, by decide, Tryz.func103.trans (congrArg some (by kernel_rfl))⟩
  f50 := ⟨Tryz.f104.name, by decide, Tryz.func104.trans (congrArg some (by kernel_rfl))⟩
  f57 := ⟨Tryz.f109.name, by decide, Tryz.func109.trans (congrArg some (by kernel_rfl))⟩
  t0 := Tryz.underlying0
  a0 := Tryz.isAgg0
  z0 := Tryz.sizeOf0
  v0 := Tryz.zeroValue0
  t3 := Tryz.underlying3
  a3 := Tryz.isAgg3
  z3 := Tryz.sizeOf3
  v3 := Tryz.zeroValue3
  t4 := Tryz.underlying4
  a4 := Tryz.isAgg4
  z4 := Tryz.sizeOf4
  v4 := Tryz.zeroValue4
  t5 := Tryz.underlying5
  a5 := Tryz.isAgg5
  z5 := Tryz.sizeOf5
  v5 := Tryz.zeroValue5
  t9 := Tryz.underlying9
  a9 := Tryz.isAgg9
  z9 := Tryz.sizeOf9
  v9 := Tryz.zeroValue9
  t22 := Tryz.underlying23
  a22 := Tryz.isAgg23
  z22 := Tryz.sizeOf23
  v22 := Tryz.zeroValue23
  a24 := Tryz.isAgg45
  z24 := Tryz.sizeOf45
  t25 := Tryz.underlying44
  a25 := Tryz.isAgg44
  z25 := Tryz.sizeOf44
  v25 := Tryz.zeroValue44
  t39 := Tryz.underlying90
  a39 := Tryz.isAgg90
  z39 := Tryz.sizeOf90
  v39 := Tryz.zeroValue90
  t45 := Tryz.underlying99
  a45 := Tryz.isAgg99
  z45 := Tryz.sizeOf99
  v45 := Tryz.zeroValue99
  t46 := Tryz.underlying100
  a46 := Tryz.isAgg100
  z46 := Tryz.sizeOf100
  v46 := Tryz.zeroValue100
  t50 := Tryz.underlying104
  a50 := Tryz.isAgg104
  z50 := Tryz.sizeOf104
  v50 := Tryz.zeroValue104
  t53 := Tryz.underlying107
  a53 := Tryz.isAgg107
  z53 := Tryz.sizeOf107
  v53 := Tryz.zeroValue107
  t55 := Tryz.underlying109
  a55 := Tryz.isAgg109
  z55 := Tryz.sizeOf109
  v55 := Tryz.zeroValue109
  t66 := Tryz.underlying111
  a66 := Tryz.isAgg111
  z66 := Tryz.sizeOf111
  v66 := Tryz.zeroValue111
  t70 := Tryz.underlying115
  a70 := Tryz.isAgg115
  z70 := Tryz.sizeOf115
  v70 := Tryz.zeroValue115
  t76 := Tryz.underlying118
  a76 := Tryz.isAgg118
  z76 := Tryz.sizeOf118
  v76 := Tryz.zeroValue118
  t77 := Tryz.underlying119
  a77 := Tryz.isAgg119
  z77 := Tryz.sizeOf119
  v77 := Tryz.zeroValue119 }
end Go.Proofs
namespace Go.Proofs.YtcidijjbcebcbaaGreat.TN
open Go.RowKit Go.Sort Go.Shelf

theorem slice_one {Q : Nat → Prop} {w : World} {h : Value} {r : Rw} (hr : RowIn Q w h r) : h.oneCell' = true := by
  obtain ⟨p, cap, rfl, _⟩ := hr; rfl
def encH (hs : List Value) (i : Nat) : Value := hs.getD i (.slice none 0 0)
def datR (ds : List Rw) (i : Nat) : Rw := ds.getD i []
def cfR (ds : List Rw) (i j : Nat) : Int := cmpR (datR ds i) (datR ds j)
theorem heads_get {Q : Nat → Prop} {w : World} {hs : List Value} {ds : List Rw} (h : HeadsIn Q w hs ds) (i : Nat) : RowIn Q w (encH hs i) (datR ds i) := by
  unfold encH datR
  by_cases hi : i < hs.length
  · have hi' : i < ds.length := by rw [← h.1]; exact hi
    rw [List.getD_eq_getElem?_getD, List.getD_eq_getElem?_getD, List.getElem?_eq_getElem hi, List.getElem?_eq_getElem hi']
    exact h.2 i _ _ (List.getElem?_eq_getElem hi) (List.getElem?_eq_getElem hi')
  · have hi' : ¬ i < ds.length := by rw [← h.1]; exact hi
    rw [List.getD_eq_getElem?_getD, List.getD_eq_getElem?_getD, List.getElem?_eq_none (by omega), List.getElem?_eq_none (by omega)]
    exact SlAt.nil _ _ _ _
theorem lt_true {ds : List Rw} {x y : Nat} : ltOf (cfR ds) x y = true ↔ cmpR (datR ds x) (datR ds y) < 0 := ⟨fun h => of_decide_eq_true h, fun h => decide_eq_true h⟩
theorem lt_false {ds : List Rw} {x y : Nat} : ltOf (cfR ds) x y = false ↔ ¬ cmpR (datR ds x) (datR ds y) < 0 := ⟨fun h => of_decide_eq_false h, fun h => decide_eq_false h⟩
theorem swoR (ds : List Rw) : SWO (ltOf (cfR ds)) where
  irrefl x := by rw [lt_false, (cmpR_zero _ _).2 rfl]; omega
  trans x y z h1 h2 := by
    rw [lt_true] at *
    obtain ⟨a, b, c, d, e, f, g⟩ := tri_cmpR (datR ds x) (datR ds y) (datR ds z)
    omega
  ntrans x y z h1 h2 := by
    rw [lt_false] at *
    obtain ⟨a, b, c, d, e, f, g⟩ := tri_cmpR (datR ds x) (datR ds y) (datR ds z)
    omega
theorem grow_of_grew {w w' : World} (h : Grew w w') : ∃ q os, w' = grow (w.drewN q) os := by
  obtain ⟨⟨d, os⟩, hw⟩ := regrown_of_below h.below
  have hd := h.drawn
  subst hw
  refine ⟨d - w.drawn, os, ?_⟩
  have e : w.drawn + (d - w.drawn) = d := by
    have : w.drawn ≤ d := hd
    omega
  show grow (redrawn w d) os = grow { w with drawn := w.drawn + (d - w.drawn) } os
  rw [e]; rfl
theorem cell_sortWorld {enc : Nat → Value} {w : World} {blk off m : Nat} {dk : Array Nat} {os : Array Obj} {a : Addr} {v : Value} (hne : a.block ≠ blk) (h : w.cell? a = some v) : (sortWorld enc w blk off m dk os).cell? a = some v := by
  unfold sortWorld
  rw [cell?_grow _ _ _ (by rw [size_putRow]; exact block_lt_of_cell h), cell?_putRow_other _ _ _ _ _ _ (Or.inl hne), cell?_ahead]
  exact h
theorem row_sortWorld {Q : Nat → Prop} {enc : Nat → Value} {w : World} {blk off m : Nat} {dk : Array Nat} {os : Array Obj} {v : Value} {r : Rw} (hq : ∀ b, Q b → b ≠ blk) (h : RowIn Q w v r) : RowIn Q (sortWorld enc w blk off m dk os) v r := by
  obtain ⟨p, cap, hv, hc, hm, hx⟩ := h
  exact ⟨p, cap, hv, hc, hm, fun hne => let ⟨b, o, hp, hQ, hj⟩ := hx hne; ⟨b, o, hp, hQ, fun j x hjx i u hu => cell_sortWorld (hq b hQ.1) (hj j x hjx i u hu)⟩⟩
theorem below_sortWorld {enc : Nat → Value} {w : World} {blk off m base : Nat} {dk : Array Nat} {os : Array Obj} (hb : base ≤ blk) (hl : base ≤ w.heap.size) : Below base w (sortWorld enc w blk off m dk os) := by
  refine ⟨rfl, rfl, rfl, ?_, fun k hk => ?_⟩
  · unfold sortWorld; rw [size_grow, size_putRow]; exact Nat.le_add_right _ _
  · unfold sortWorld
    rw [heap_grow_old _ _ (by rw [size_putRow]; show k < w.heap.size; omega)]
    show (w.heap.modify blk _)[k]? = _
    rw [Array.getElem?_modify, if_neg (by omega)]
theorem sort_any {Q : Nat → Prop} {hs : List Value} {ds : List Rw} {B n cap base : Nat} {w : World} (hblk : w.heap[B]? = some (.cells hs.toArray 45 (0, 0))) (hq : ∀ b, Q b → b ≠ B) (hh : HeadsIn Q w hs ds) (hn : hs.length = n) (hsz : n * 24 ≤ 140737488355328) (hcap : n ≤ cap) (hbase : base ≤ B) :
    Calls Tryz.prog 56 #[.slice (some ⟨B, 0, none⟩) n cap, .func (.func 57) #[] #[]] w fun e w' => e = .returned (.tuple #[]) ∧ (∃ hs', SlAt (fun b => b = B) one 1 w' (.slice (some ⟨B, 0, none⟩) n cap) hs' ∧ HeadsIn Q w' hs' (sortR ds)) ∧ Below base w w' := by
  have hB : B < w.heap.size := lt_of_block hblk
  have eg : ∀ args w, (callFunc 57 args).run Tryz.prog w = .ok (.enter 57 args) w := enters_of Tryz.func57 (by kernel_rfl) rfl
  have h1 : OneCell (encH hs) := fun i => slice_one (heads_get hh i)
  have hcmp : ∀ size, CmpLays1 Tryz.prog 57 #[] (encH hs) (cfR ds) B 0 size w := fun size m os dk _ x y =>
    (compareRows_any (row_sortWorld hq (heads_get hh x)).at (row_sortWorld hq (heads_get hh y)).at).mono fun e w' ⟨he, hg⟩ => ⟨he, grow_of_grew hg⟩
  have hsize : (Array.range n).size = n := Array.size_range
  have hget : ∀ j, j < n → (Array.range n)[j]! = j := fun j hj => by rw [getElem!_pos _ j (by rw [hsize]; exact hj)]; simp
  have hH : Holds (encH hs) w B 0 (Array.range n) := fun j hj => by
    rw [hsize] at hj
    rw [hget j hj, Nat.zero_add]
    refine ⟨?_, by simp [World.frozen?, hblk]⟩
    rw [block_cell hblk]
    unfold encH
    rw [List.getD_eq_getElem?_getD, List.getElem?_toArray, List.getElem?_eq_getElem (by omega)]; rfl
  have hS := Any.slices_SortFunc Tryz.sortL (encH hs) h1 (cfR ds) (swoR ds) 57 #[] B 0 cap (Array.range n) w eg (hcmp _) hH hB (by rw [hsize]; omega)
  rw [hsize] at hS
  refine Calls.mono (show Calls Tryz.prog 56 _ _ _ from hS) ?_
  rintro e w' ⟨he, d', m, os, hp, hso, rfl⟩
  obtain ⟨hs1, _, hp1⟩ := hp
  rw [hsize] at hs1
  have e1 : d'.extract 0 n = d' := by rw [← hs1]; exact Array.extract_size
  have e2 : (Array.range n).extract 0 n = Array.range n := by
    have := Array.extract_size (xs := Array.range n)
    rwa [hsize] at this
  rw [e1, e2] at hp1
  have hds : ((Array.range n).toList.map (datR ds)) = ds := by
    apply List.ext_getElem?
    intro i
    rw [List.getElem?_map, Array.toList_range]
    have hl : ds.length = n := by rw [← hh.1]; exact hn
    by_cases hi : i < n
    · rw [List.getElem?_range hi, List.getElem?_eq_getElem (by omega)]
      simp only [Option.map_some, datR, List.getD_eq_getElem?_getD]
      rw [List.getElem?_eq_getElem (by omega)]; rfl
    · rw [List.getElem?_eq_none (by simp; omega), List.getElem?_eq_none (by omega)]; rfl
  have hperm : (d'.toList.map (datR ds)).Perm ds := by
    have := hp1.map (datR ds)
    rwa [hds] at this
  have hup : upR (d'.toList.map (datR ds)) := by
    unfold upR
    rw [List.pairwise_map, List.pairwise_iff_getElem]
    intro i j hi hj hij
    have hi' : i < d'.size := by simpa using hi
    have hj' : j < d'.size := by simpa using hj
    have := hso i j (Nat.zero_le _) hij (by omega)
    rw [lt_false, getElem!_pos d' j hj', getElem!_pos d' i hi'] at this
    have hneg := neg_cmpR (datR ds d'[i]) (datR ds d'[j])
    show cmpR (datR ds d'.toList[i]) (datR ds d'.toList[j]) ≤ 0
    rw [Array.getElem_toList, Array.getElem_toList]
    omega
  have hsort := sortR_of hup hperm
  refine ⟨he, ⟨d'.toList.map (encH hs), ?_, ?_⟩, below_sortWorld hbase (by omega)⟩
  · refine ⟨some ⟨B, 0, none⟩, cap, by simp [hs1], ⟨by simp [hs1]; exact hcap, fun h => by cases h⟩, by simp only [List.length_map, Array.length_toList, hs1]; unfold maxLen; omega, fun _ => ⟨B, 0, rfl, ⟨rfl, by simp only [List.length_map, Array.length_toList, hs1]; exact hsz⟩, fun j x hx i u hu => ?_⟩⟩
    match i, hu with
    | 0, hu =>
      simp [one] at hu
      subst hu
      rw [List.getElem?_map] at hx
      obtain ⟨y, hy, rfl⟩ := Option.map_eq_some_iff.1 hx
      have hj : j < d'.size := by simpa using (List.getElem?_eq_some_iff.1 hy).1
      have hy' : d'[j]! = y := by
        rw [getElem!_pos d' j hj]
        have := (List.getElem?_eq_some_iff.1 hy).2
        rwa [Array.getElem_toList] at this
      have hc := cell?_putRow (encH hs) (Sort.ahead w m) B 0 (Array.range n) d' hH (by rw [hs1, hsize]) j hj
      rw [hy'] at hc
      unfold sortWorld
      rw [cell?_grow _ _ _ (by rw [size_putRow]; exact hB)]
      simpa using hc
    | i + 1, hu => simp [one] at hu
  · rw [← hsort]
    refine ⟨by simp, fun j h r h1 h2 => ?_⟩
    rw [List.getElem?_map] at h1 h2
    obtain ⟨y, hy, rfl⟩ := Option.map_eq_some_iff.1 h1
    obtain ⟨y', hy', rfl⟩ := Option.map_eq_some_iff.1 h2
    rw [hy] at hy'
    injection hy' with hy'
    subst hy'
    exact row_sortWorld hq (heads_get hh y)
end Go.Proofs.YtcidijjbcebcbaaGreat.TN
namespace Go.Proofs.YtcidijjbcebcbaaGreat.TN
open Go.RowKit Go.Sort Go.Shelf

set_option maxHeartbeats 1000000 in
theorem inOrder_any {Qc : Nat → Prop} {c rv : Value} {cs : List Cl} {rs : List Rw} {g : Nat} {cb : Array Value} {f : Rw → Rw} {w : World} (hc : SlAt Qc Cl.cells 2 w c cs) (hr : RowsAt w rv rs)
    (eg : ∀ args w, (callFunc g args).run Tryz.prog w = .ok (.enter g args) w)
    (ha : ∀ (W : World) (h : Value) (r : Rw), r ∈ rs → Below w.heap.size w W → RowAt W h r → Calls Tryz.prog g (#[h] ++ cb) W fun e w' => ∃ v', e = .returned v' ∧ RowIn (fun b => W.heap.size ≤ b) w' v' (f r) ∧ Below W.heap.size W w') :
    Calls Tryz.prog 39 #[c, rv, .func (.func g) #[] cb] w fun e w' => ∃ v, e = .returned v ∧ TabIn (fun b => Qc b ∨ w.heap.size ≤ b) w' v cs (sortR (rs.map f)) ∧ Below w.heap.size w w' := by
  obtain ⟨hs, hsl, hh⟩ := hr
  have hbnd := SlAt.bound hsl
  obtain ⟨p, cap, rfl, hcap, hmax, hx⟩ := hsl
  unfold maxLen at hmax
  have HX := hid hx
  have HC := hid hc
  have HH := hid hh
  have HAN := hid ha
  clear hx hc hh ha
  generalize hn : hs.length = n at *
  have HN := hid hn
  clear hn
  have hbnd' : n * 24 ≤ 140737488355328 := hbnd
  clear hbnd
  have hmk := make_rows n hbnd'
  have HCL := hid (SlAt.lt cl_len (by omega) HC.out)
  obtain ⟨pc, capc, rfl, -⟩ := HC.out
  clear HC
  generalize cs.length = nc at *
  have hr0 : (part [] n) = Array.replicate n nilS := by unfold part; simp
  go_enter Tryz.func39, Tryz.ntmps39
  go_wp2
  have K0 := hid (block_on (alloc_block w (.cells #[.slice none 0 0, .slice none 0 0] 25)) ((Below.refl _ _).alloc (Nat.le_refl _) (.cells (Array.replicate n nilS) 45)))
  have K1 : Hid (((w.alloc (.cells #[.slice none 0 0, .slice none 0 0] 25)).alloc (.cells (Array.replicate n nilS) 45)).heap[w.heap.size + 1]? = some (.cells (part [] n) 45 (0, 0))) := by
    rw [hr0]
    have h := alloc_block (w.alloc (.cells #[.slice none 0 0, .slice none 0 0] 25)) (.cells (Array.replicate n nilS) 45)
    rw [World.size_alloc] at h
    exact h
  have HB0 := hid (((Below.refl w.heap.size w).alloc (Nat.le_refl _) (.cells #[.slice none 0 0, .slice none 0 0] 25)).alloc (by simp) (.cells (Array.replicate n nilS) 45))
  go_loopw [15] (fun i wr => ∃ (k : Nat) (hs' : List Value), k ≤ n ∧ i = .int .i64 k ∧ hs'.length = k ∧ Hid (wr.heap[w.heap.size + 1]? = some (.cells (part hs' n) 45 (0, 0))) ∧ Hid (HeadsIn (fun b => w.heap.size + 1 < b) wr hs' ((rs.take k).map f)) ∧ Hid (wr.heap[w.heap.size]? = some (.cells #[.slice none 0 0, .slice none 0 0] 25 (0, 0))) ∧ Hid (Below w.heap.size w wr)) (fun i _ => n - (intOf i).toNat)
  case atStart => exact ⟨0, [], by omega, rfl, rfl, K1.out, ⟨by simp, fun j h r h1 _ => by simp at h1⟩, K0.out, HB0.out⟩
  case round =>
    obtain ⟨k, hs', hk, rfl, hl, HK1, HH', HK0, HB⟩ := hrel
    by_cases hlt : k < n
    · have hkh : k < hs.length := by rw [HN.out]; exact hlt
      have hkr : k < rs.length := by rw [← HH.out.1]; exact hkh
      obtain ⟨b, o, rfl, -, hj⟩ := HX.out (by intro e; subst e; simp at hkh)
      have hd := head_cell (fun j x hjx => (hj j x hjx).on HB.out) (get!_some hkh)
      have HRow := hid ((HH.out.2 k _ _ (get!_some hkh) (get!_some hkr)).on HB.out)
      have HM := hid (List.mem_of_getElem? (get!_some hkr))
      generalize hs[k]! = hd0 at hd HRow
      have HT := hid (take_map_snoc (f := f) hkr)
      generalize rs[k]! = r0 at HRow HM HT
      clear hj
      have hlt1 := lt_of_block HK1.out
      go_wp2_with (first | (go_at_fn g; refine (HAN.out wr hd0 r0 HM.out HB.out HRow.out).mono ?_; rintro e w1 ⟨v', rfl, hrow, hb1⟩; have HROW := hid hrow; have HB1 := hid hb1; have K1' := hid (block_on HK1.out hb1); have hc1 : w1.cell? ⟨w.heap.size + 1, k, none⟩ = some nilS := (by rw [block_cell K1'.out]; subst hl; exact part_nil hlt); have hf1 := frozen_no K1'.out; obtain ⟨p', cap', rfl, -⟩ := hrow; clear hb1))
      generalize List.length (f r0) = n0 at *
      go_roundw
      case rel =>
        refine ⟨k + 1, hs' ++ [.slice p' n0 cap'], by omega, by go_num, by simp [hl], ?_, ?_, ?_, ?_⟩
        · show _ = _
          rw [Joins.block_setCell K1'.out, ← part_set (by omega), hl]
        · show HeadsIn _ _ _ _
          rw [HT.out]
          exact heads_snoc (HeadsIn.set (fun b (hb : w.heap.size + 1 < b) => by omega) (HH'.out.on HB1.out)) (SlAt.set (fun b (hb : w.heap.size + 1 < b) => by omega) (RowIn.imp HROW.out (fun b (hb : wr.heap.size ≤ b) => by omega)))
        · show _ = _
          rw [Deep.blk_setCell_other _ _ _ _ (by simp)]; exact block_on HK0.out HB1.out
        · exact below_set (below_on HB.out HB1.out) (by omega)
      case measure => simp [intOf]; omega
    · have hks : k = n := by omega
      subst hks
      have hrl : rs.take k = rs := by rw [List.take_of_length_le]; rw [← HH.out.1, HN.out]; exact Nat.le_refl _
      rw [hrl] at HH'
      have K1' := hid HK1.out
      rw [part_all hl] at K1'
      go_wp2_with (first | (go_at_call 56; refine (sort_any (base := w.heap.size + 1) K1'.out (fun b (hb : w.heap.size + 1 < b) => by omega) HH'.out hl hbnd' (Nat.le_refl _) (Nat.le_refl _)).mono ?_; rintro e w2 ⟨rfl, ⟨hs2, hsl, hh2⟩, hb2⟩; have HSL := hid hsl; have HH2 := hid hh2; have HB2 := hid hb2; have K2 := hid ((hb2.block w.heap.size (by omega)).trans HK0.out); have kc := block_cell K2.out; have kf := frozen_no K2.out; clear hsl hh2 hb2))
      refine bodyPost_ret (v := .agg #[.slice pc nc capc, .slice (some ⟨w.heap.size + 1, 0, none⟩) k k]) ?hv rfl ⟨_, rfl, ?ht, ?hb⟩
      case hv =>
        have KF := Joins.block_setCell (i := 1) (Joins.block_setCell (i := 0) K2.out (.slice pc nc capc)) (.slice (some ⟨w.heap.size + 1, 0, none⟩) k k)
        generalize ((w2.setCell ⟨w.heap.size, 0, none⟩ (.slice pc nc capc)).setCell ⟨w.heap.size, 1, none⟩ (.slice (some ⟨w.heap.size + 1, 0, none⟩) k k)) = WF at KF ⊢
        have kcf := block_cell KF
        clear KF kc kf
        simp [results, Tryz.results39, go_sem, kcf]
      case hb => exact below_set (below_set (HB.out.trans (HB2.out.mono (by omega))) (Nat.le_refl _)) (Nat.le_refl _)
      case ht =>
        refine ⟨_, _, rfl, ?_, hs2, ?_, ?_⟩
        · exact SlAt.imp (SlAt.set (fun b (hb : Qc b ∧ b < w.heap.size) => by omega) (SlAt.set (fun b (hb : Qc b ∧ b < w.heap.size) => by omega) (SlAt.on HCL.out (HB.out.trans (HB2.out.mono (by omega)))))) (fun _ hb => Or.inl hb.1)
        · exact SlAt.imp (SlAt.set (fun b (hb : b = w.heap.size + 1) => by omega) (SlAt.set (fun b (hb : b = w.heap.size + 1) => by omega) HSL.out)) (fun b (hb : b = w.heap.size + 1) => Or.inr (by omega))
        · exact HeadsIn.imp (HeadsIn.set (fun b (hb : w.heap.size + 1 < b) => by omega) (HeadsIn.set (fun b (hb : w.heap.size + 1 < b) => by omega) HH2.out)) (fun b (hb : w.heap.size + 1 < b) => Or.inr (by omega))
end Go.Proofs.YtcidijjbcebcbaaGreat.TN
namespace Go.Proofs.YtcidijjbcebcbaaGreat.TN
open Go.RowKit Go.Sort Go.Shelf

theorem alloc_blk2 (w : World) (x y : Obj) : ((w.alloc x).alloc y).heap[w.heap.size + 1]? = some y := by
  have h := alloc_block (w.alloc x) y
  rwa [World.size_alloc] at h
set_option maxHeartbeats 1000000 in
theorem canon_any {v : Value} {cs : List Cl} {rs : List Rw} {w : World} (hv : TabAt w v cs rs) :
    Calls Tryz.prog 25 #[v] w fun e w' => ∃ v', e = .returned v' ∧ TabIn (fun b => w.heap.size ≤ b) w' v' cs (sortR rs) ∧ Below w.heap.size w w' := by
  obtain ⟨c, rv, rfl, hc, hr⟩ := hv
  have eg : ∀ args w, (callFunc 22 args).run Tryz.prog w = .ok (.enter 22 args) w := enters_of Tryz.func22 (by kernel_rfl) rfl
  have HC := hid hc
  have HR := hid hr
  obtain ⟨pc, capc, rfl, -⟩ := hc
  obtain ⟨hs, ⟨pr, capr, rfl, -⟩, -⟩ := hr
  generalize cs.length = nc at *
  generalize hs.length = nr at *
  have HA : Hid (∀ (W0 W : World) (h : Value) (r : Rw), r ∈ rs → Below W0.heap.size W0 W → RowAt W h r → Calls Tryz.prog 22 (#[h] ++ #[]) W fun e w' => ∃ v', e = .returned v' ∧ RowIn (fun b => W.heap.size ≤ b) w' v' (id r) ∧ Below W.heap.size W w') :=
    fun W0 W h r _ _ hr => cloneV_any hr
  go_enter Tryz.func25, Tryz.ntmps25
  go_wp2_with fail
  have K0 := hid (block_on (alloc_block w (.cells #[.slice pc nc capc, .slice pr nr capr] 25)) ((Below.refl _ _).alloc (Nat.le_refl _) (.cells #[.slice none 0 0, .slice none 0 0] 25)))
  have K1 := hid (alloc_blk2 w (.cells #[.slice pc nc capc, .slice pr nr capr] 25) (.cells #[.slice none 0 0, .slice none 0 0] 25))
  have HB := hid (((Below.refl w.heap.size w).alloc (Nat.le_refl _) (.cells #[.slice pc nc capc, .slice pr nr capr] 25)).alloc (by simp) (.cells #[.slice none 0 0, .slice none 0 0] 25))
  generalize ((w.alloc (.cells #[.slice pc nc capc, .slice pr nr capr] 25)).alloc (.cells #[.slice none 0 0, .slice none 0 0] 25)) = W at *
  have k0 := block_cell K0.out
  have k1 := block_cell K1.out
  have f1 := frozen_no K1.out
  go_region_with (first | (go_at_call 31; refine (cloneC_any (HC.out.on (by first | exact HB.out | exact HB.out.drew))).mono ?_; rintro e w1 ⟨v1, rfl, hc1, hb1⟩; have HC1 := hid hc1; have HB1 : Hid (Below W.heap.size W w1) := (by first | exact hb1 | exact (Below.refl _ _).drew.trans hb1); have K01 := hid (block_on K0.out HB1.out); have K11 := hid (block_on K1.out HB1.out); have k01 := block_cell K01.out; clear hc1 hb1) | (go_at_call 39; refine (inOrder_any HC1.out (HR.out.on (below_on HB.out HB1.out)) eg (HA.out _)).mono ?_; rintro e w2 ⟨v2, rfl, ht2, hb2⟩; have HT2 := hid ht2; have HB2 := hid hb2; have K12 := hid (block_on K11.out HB2.out); have k12 := block_cell K12.out; have f12 := frozen_no K12.out; obtain ⟨c2, r2, rfl, ⟨pc2, capc2, rfl, -⟩, hs2, ⟨pr2, capr2, rfl, -⟩, -⟩ := ht2; clear hb2))
  all_goals
    have l1 := lt_of_block K1.out
    have l2 := HB1.out.size
    clear k0 k1 f1 k01 k12 f12
    go_wp2
    refine bodyPost_ret (v := .agg #[.slice pc2 cs.length capc2, .slice pr2 hs2.length capr2]) ?hv rfl ⟨_, rfl, ?ht, ?hb⟩
    case hv =>
      have KF := Joins.block_setCell (i := 1) (Joins.block_setCell (i := 0) K12.out (.slice pc2 cs.length capc2)) (.slice pr2 hs2.length capr2)
      generalize ((w2.setCell ⟨w.heap.size + 1, 0, none⟩ (.slice pc2 cs.length capc2)).setCell ⟨w.heap.size + 1, 1, none⟩ (.slice pr2 hs2.length capr2)) = WF at KF ⊢
      have kcf := block_cell KF
      clear KF
      simp [results, Tryz.results25, go_sem, kcf]
    case hb => exact below_set (below_set (below_on (below_on HB.out HB1.out) HB2.out) (by omega)) (by omega)
    case ht =>
      rw [List.map_id] at HT2
      exact (TabIn.set (fun b hb => by rcases hb with hb | hb <;> (have : W.heap.size ≤ b := (by first | exact hb | exact Nat.le_trans l2 hb); omega)) (TabIn.set (fun b hb => by rcases hb with hb | hb <;> (have : W.heap.size ≤ b := (by first | exact hb | exact Nat.le_trans l2 hb); omega)) HT2.out)).imp (fun b hb => by rcases hb with hb | hb <;> (have : W.heap.size ≤ b := (by first | exact hb | exact Nat.le_trans l2 hb); omega))
end Go.Proofs.YtcidijjbcebcbaaGreat.TN
