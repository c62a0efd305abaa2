/-
  RowopsWhole, walked.
  The arguments opened as their types say: a table lies in memory as rows and columns of plain data.
-/
import Derived.Test.YtcidijjbcebcbaaKW03
import Derived.Test.YtcidijjbcebcbaaKW14
import Derived.Test.YtcidijjbcebcbaaKW15
import Derived.Test.YtcidijjbcebcbaaKW18
import Derived.Test.YtcidijjbcebcbaaKW21
import Derived.Deep.RegionHeld3
import Derived.ProofKit
import Derived.LaidMore
import Derived.OpenShut
import Derived.SizedLaws
import Derived.Deep.Slices
namespace Go.Proofs.Ytcidijjbcebcbaa.RO
open Go.RowKit Go.Joins Go.Sort

set_option maxRecDepth 100000 in
set_option maxHeartbeats 16000000 in
theorem whole_any {tv : Value} {cs : List TN.Cl} {rs : List TN.Rw} {nn ky : Int} {w : World} (ht : TN.TabAt w tv cs rs) (hnn : InI nn) (hky : InI ky) : Calls Try.prog 10 #[tv, .int .i64 nn, .int .i64 ky] w fun e w' => e = .returned (.bool true) ∧ Below w.heap.size w w' := by
  obtain ⟨cv, rv, rfl, hcs, hs, hrs, hhs⟩ := ht
  have hb0 : Below w.heap.size w (w.alloc (.cells #[cv, rv] 28)) := (Below.refl _ _).alloc (Nat.le_refl _) _
  have hK0 := alloc_block w (.cells #[cv, rv] 28)
  have HB0 := hid hb0
  have HK0 := hid hK0
  have HC0 := hid ((TN.SlAt.low hcs (by decide) TN.cl_len).imp (fun b hb => hb.2) |>.on hb0)
  have HR0 := hid ((TN.SlAt.low hrs (by decide) TN.one_len).imp (fun b hb => hb.2) |>.on hb0)
  have HH0 := hid (TN.HeadsIn.on (TN.heads_low hhs) hb0)
  have HNN := hid hnn
  have HKY := hid hky
  have HSh := hid shown6_any
  obtain ⟨pc, cc, rfl, -⟩ := hcs
  obtain ⟨pr0, cr0, rfl, -⟩ := hrs
  clear hb0 hK0 hhs hnn hky
  go_enter Try.func10, Try.ntmps10
  go_upto_region 1 with fail
  generalize w.alloc (.cells #[.slice pc cs.length cc, .slice pr0 hs.length cr0] 28) = w0 at *
  have y0 : w0.cell? ⟨w.heap.size, 0, none⟩ = some (.slice pc cs.length cc) := block_cell HK0.out 0
  have y1 : w0.cell? ⟨w.heap.size, 1, none⟩ = some (.slice pr0 hs.length cr0) := block_cell HK0.out 1
  go_upto_region 2 with (first
    | (go_at_call 28; refine (HSh.out _).mono ?_; rintro e w1 ⟨rfl, hb⟩; have HB1 := hid (HB0.out.trans (hb.mono HB0.out.size)); have hk1 := block_on HK0.out hb; have HK1 := hid hk1; have y2 := block_cell hk1 0; have y3 := block_cell hk1 1; have HC1 := hid (HC0.out.on hb); have HR1 := hid (HR0.out.on hb); have HH1 := hid (HH0.out.on hb); clear hb hk1 y0 y1))
  go_upto_region 3 with (first
    | (go_at_call 29; refine (TN.cut6_q HC1.out HR1.out HH1.out).mono ?_; rintro e w2 ⟨r2, rfl, hr2, hh2, hb⟩; have hr1 : (rs.take 100).length ≤ 100 := (by rw [List.length_take]; omega); generalize hs.take 100 = hs3 at *; generalize rs.take 100 = rs3 at *; have HLR := hid hr1; obtain ⟨n, hn⟩ : ∃ n, hs3.length = n := ⟨_, rfl⟩; have HN := hid hn; have HB2 := hid (HB1.out.trans (hb.mono HB1.out.size)); have hk2 := block_on HK1.out hb; have HK2 := hid hk2; have y4 := block_cell hk2 0; have y5 := block_cell hk2 1; have y6 := block_frozen hk2 0; have y7 := block_frozen (block_set hk2 0 (.slice pc cs.length cc)) 1; have y8 := block_cell (block_set hk2 0 (.slice pc cs.length cc)) 1; have HC2 := hid (HC1.out.on hb); have HR2 := hid hr2; have HH2 := hid hh2; obtain ⟨pr, cr, rfl, -⟩ := hr2; rw [hn] at HR2 ⊢; clear hb hk2 y2 y3 hh2 hr1 hn))
  have hkf : Kp (fun b => b = w.heap.size) w2 ((w2.setCell ⟨w.heap.size, 0, none⟩ (.slice pc cs.length cc)).setCell ⟨w.heap.size, 1, none⟩ (.slice pr n cr)) := (Kp.set (T := fun b => b = w.heap.size) rfl _).trans (Kp.set (T := fun b => b = w.heap.size) rfl _)
  have KF := block_set (block_set HK2.out 0 (.slice pc cs.length cc)) 1 (.slice pr n cr)
  have hwz : w.heap.size ≤ w2.heap.size := HB2.out.size
  have HT3 : Hid (TN.TabAt ((w2.setCell ⟨w.heap.size, 0, none⟩ (.slice pc cs.length cc)).setCell ⟨w.heap.size, 1, none⟩ (.slice pr n cr)) (.agg #[.slice pc cs.length cc, .slice pr n cr]) cs rs3) := hid ((TN.TabIn.set (Q := fun b => b < w.heap.size) (fun b hb => by omega) (TN.TabIn.set (fun b hb => by omega) ⟨_, _, rfl, HC2.out, hs3, HR2.out, HH2.out⟩)).imp (fun _ _ => trivial))
  have HB3 := hid (HB2.out.trans (hkf.below HB2.out.size (fun b e => by omega)))
  clear y4 y5 y6 y7 y8 hkf HC2 HR2 HH2 HK2 hwz
  have HW3 := hid KF
  clear KF
  generalize (w2.setCell ⟨w.heap.size, 0, none⟩ (.slice pc cs.length cc)).setCell ⟨w.heap.size, 1, none⟩ (.slice pr n cr) = w3 at *
  have hrl : rs3.length ≤ 1000000 := by have := HLR.out; omega
  have HCh := hid (fun W (hb : Below w3.heap.size w3 W) => TN.rcheck_any (HT3.out.on hb))
  have HCn := hid (fun W (hb : Below w3.heap.size w3 W) => TN.rcanon_any (HT3.out.on hb))
  have HTo := hid (fun nm W (hb : Below w3.heap.size w3 W) => top_any (n := nn) (nm := nm) (HT3.out.on hb) hrl)
  have HZ := hid (show TN.checkV cs rs3 = TN.checkV cs rs3 from rfl)
  have y4 : w3.cell? ⟨w.heap.size, 0, none⟩ = some (.slice pc cs.length cc) := block_cell HW3.out 0
  have y5 : w3.cell? ⟨w.heap.size, 1, none⟩ = some (.slice pr n cr) := block_cell HW3.out 1
  clear hrl
  by_cases hck : TN.checkV cs rs3 = 0
  case neg =>
    have zb : (TN.checkV cs rs3 != 0) = true := by simp; exact hck
    go_wp2_with (first
      | (go_at_call 32; refine (HCh.out _ (Below.refl _ _)).mono ?_; rintro e w4 ⟨rfl, hb⟩; have HB4 := hid (HB3.out.trans (hb.mono HB3.out.size)); clear hb y4 y5))
    go_ret
    exact ⟨rfl, HB4.out⟩
  have zb : (TN.checkV cs rs3 != 0) = false := by simp [hck]
  have hcl : 1 ≤ cs.length ∧ cs.length ≤ 16 := by
    exact (chk_parts hck).1
  go_upto_region 5 with (first
    | (go_at_call 32; refine (HCh.out _ (Below.refl _ _)).mono ?_; rintro e w4 ⟨rfl, hb⟩; have HB4 := hid hb; have HW4 := hid (block_on HW3.out hb); have y6 := block_cell HW4.out 0; have y7 := block_cell HW4.out 1; clear hb y4 y5))
  have HCK := hid hck
  have hkyI := HKY.out
  have hnnI := HNN.out
  unfold InI at hkyI hnnI
  have HCn4 := hid (fun W (hb : Below w4.heap.size w4 W) => TN.rcanon_any ((HT3.out.on HB4.out).on hb))
  have HTo4 := hid (fun p n W (hb : Below w4.heap.size w4 W) (h1 : p < cs.length) (h2 : cs[p]!.kd ≠ 4) (h3 : 1 ≤ n) (h4 : n ≤ 1000) => top_ok (n := n) ((HT3.out.on HB4.out).on hb) (by have := HLR.out; omega) hck h1 h2 h3 h4)
  have HT4 := hid (HT3.out.on HB4.out)
  have HRW := hid (chk_parts hck).2.2
  have HB04 := hid (HB3.out.trans (HB4.out.mono HB3.out.size))
  clear HCh HCn HTo HT3 HB4 HW3 HB3 HB2 HB1 HB0 HC0 HR0 HH0 HC1 HR1 HH1 HK0 HK1 zb hck HZ HSh
  obtain ⟨L, hLc⟩ : ∃ L, cs.length = L := ⟨_, rfl⟩
  have HLc := hid hLc
  rw [hLc] at hcl
  simp only [hLc] at HT4 HW4 y6 y7 HCn4 HTo4 HRW
  rw [hLc]
  clear hLc
  go_upto_if 25 with fail
  go_cut [2] from 24 to 28 (fun x wx => ∃ A : Int, x = .int .i64 A ∧ 0 ≤ A ∧ A ≤ 9223372036854775807 ∧ wx = w4)
  case first =>
    by_cases hs : ky < 0
    · go_wp2_with fail
      go_meet
      case rel => exact ⟨_, rfl, by omega, by omega, rfl⟩
    · go_wp2_with fail
      go_meet
      case rel => exact ⟨_, rfl, by omega, by omega, rfl⟩
  case rest =>
  obtain ⟨A, rfl, hA0, hA1, hwc⟩ := hcut
  replace hwc := hwc.symm
  subst hwc
  have hL0 : (L : Int) ≠ 0 := by omega
  go_upto_region 8 with fail
  obtain ⟨c, hAc⟩ : ∃ c : Nat, A % (L : Int) = (c : Int) := ⟨(A % (L : Int)).toNat, by have := Int.emod_nonneg A hL0; omega⟩
  have hc1 : c < L := by have := Int.emod_lt_of_pos A (b := (L : Int)) (by omega); omega
  rw [hAc]
  clear hAc hA0 hA1 hkyI
  obtain ⟨bc, oc, rfl, cellN, cellK⟩ := tab_col HT4.out (p := c) (by rw [HLc.out]; exact hc1)
  have HTc := hid (fun (h2 : cs[c]!.kd ≠ 4) (h3 : 1 ≤ nn) (h4 : nn ≤ 1000) W hb => HTo4.out c nn W hb hc1 h2 h3 h4)
  have HRc : Hid (∀ r ∈ rs3, c < r.length) := hid (fun r hr => by rw [HRW.out r hr]; exact hc1)
  clear HTo4
  generalize cs[c]!.nm = nm at *
  generalize cs[c]!.kd = kd at *
  have cI : (c : Int) < L := by omega
  have c0 : (0 : Int) ≤ c := by omega
  have LI : (L : Int) ≤ 16 := by omega
  by_cases hk4 : kd = 4
  case pos =>
    have d1 : (kd == 4) = true := by simp [hk4]
    go_wp2_with fail
    go_ret
    exact ⟨rfl, HB04.out⟩
  have d1 : (kd == 4) = false := by simp [hk4]
  by_cases hn1 : 1 ≤ nn
  case neg =>
    have d2 : decide (nn < 1) = true := decide_eq_true (by omega)
    have d2b : nn < 1 := by omega
    go_wp2_with fail
    go_ret
    exact ⟨rfl, HB04.out⟩
  have d2 : decide (nn < 1) = false := decide_eq_false (by omega)
  have d2b : ¬ nn < 1 := by omega
  by_cases hn2 : nn ≤ 1000
  case neg =>
    have d3 : decide (nn > 1000) = true := decide_eq_true (by omega)
    have d3b : nn > 1000 := by omega
    go_wp2_with fail
    go_ret
    exact ⟨rfl, HB04.out⟩
  have d3 : decide (nn > 1000) = false := decide_eq_false (by omega)
  have d3b : ¬ nn > 1000 := by omega
  have HTop := hid (HTc.out hk4 hn1 hn2)
  clear HTc
  go_upto_region 10 with fail
  clear d1 d2 d3 hk4 cellK
  go_cut [9, 10] from 50 to 61 (fun x y wx => y = .int .i64 0 ∧ ∃ q pcx ncx ccx prx nrx crx, x = .pointer (some ⟨q, 0, none⟩) ∧ w4.heap.size ≤ q ∧ Hid (wx.heap[q]? = some (.cells #[.slice pcx ncx ccx, .slice prx nrx crx] 28 (0, 0))) ∧ Hid (TN.TabAt wx (.agg #[.slice pcx ncx ccx, .slice prx nrx crx]) cs (topR c nn.toNat rs3)) ∧ Hid (Below w4.heap.size w4 wx))
  case first =>
    have hd : Below w4.heap.size w4 w4.drew := (Below.refl _ _).drew
    have HD := hid hd
    have ha : Below w4.heap.size w4 (w4.alloc (.cells #[.slice none 0 0, .slice none 0 0] 28)).drew := ((Below.refl _ _).alloc (Nat.le_refl _) _).drew
    have HDa := hid ha
    have KD : Hid ((w4.alloc (.cells #[.slice none 0 0, .slice none 0 0] 28)).drew.heap[w4.heap.size]? = some (.cells #[.slice none 0 0, .slice none 0 0] 28 (0, 0))) := hid (alloc_block w4 _)
    have hsz : (w4.alloc (.cells #[.slice none 0 0, .slice none 0 0] 28)).drew.heap.size = w4.heap.size + 1 := World.size_alloc _ _
    have HSZ := hid hsz
    have hS4 : A3 ⟨w.heap.size, 0, none⟩ ⟨w.heap.size, 1, none⟩ ⟨bc, oc + c * 2, none⟩ (.slice (some ⟨bc, oc, none⟩) L cc) (.slice pr n cr) (.string nm) w4 := ⟨block_cell HW4.out 0, block_cell HW4.out 1, cellN⟩
    have HSB : Hid (∀ W, Below w4.heap.size w4 W → A3 ⟨w.heap.size, 0, none⟩ ⟨w.heap.size, 1, none⟩ ⟨bc, oc + c * 2, none⟩ (.slice (some ⟨bc, oc, none⟩) L cc) (.slice pr n cr) (.string nm) W) := fun W hb => a3B hS4 hb
    have hg0 : w4.heap.size ≠ w.heap.size := by have := lt_of_block HW4.out; omega
    have hg2 : w4.heap.size ≠ bc := by have := block_lt_of_cell cellN; simp only at this; omega
    clear hd ha hsz y6 y7 cellN
    go_region_held3 (A3 ⟨w.heap.size, 0, none⟩ ⟨w.heap.size, 1, none⟩ ⟨bc, oc + c * 2, none⟩ (.slice (some ⟨bc, oc, none⟩) L cc) (.slice pr n cr) (.string nm)) (((repeat (first | (with_reducible refine a3D ?_) | (with_reducible refine a3A ?_) | (with_reducible refine a3S hg0 hg0 hg2 ?_))); (with_reducible assumption)))
      (first
      | (go_at_call 30; (refine (HTop.out _ HD.out).mono ?_; rintro e wA ⟨vA, rfl, hfA, htA, hb⟩; obtain ⟨pcA, ncA, ccA, prA, nrA, crA, rfl⟩ := hfA; have HTA := hid htA; have HBA := hid (TN.below_on HD.out hb); have hSA := HSB.out _ HBA.out; clear hb htA))
      | (go_at_call 30; (refine (HTop.out _ HDa.out).mono ?_; rintro e wA ⟨vA, rfl, hfA, htA, hb⟩; obtain ⟨pcA, ncA, ccA, prA, nrA, crA, rfl⟩ := hfA; have HTA := hid htA; have HBA := hid (TN.below_on HDa.out hb); have KA := hid (block_on KD.out hb); have k0 := block_cell KA.out; have f0 := block_frozen KA.out; have hSA := HSB.out _ HBA.out; clear hb htA)))
    all_goals
      go_wp2_with fail
      go_meet
      case rel =>
        first
        | exact ⟨rfl, _, _, _, _, _, _, _, rfl, HBA.out.size, alloc_block wA _, HTA.out.at.on ((Below.refl _ _).alloc (Nat.le_refl _) _), TN.below_on HBA.out ((Below.refl _ _).alloc (Nat.le_refl _) _)⟩
        | exact ⟨rfl, _, _, _, _, _, _, _, rfl, Nat.le_refl _, block_set (block_set KA.out 0 _) 1 _, (TN.TabIn.set (fun b hb => by have := HSZ.out; omega) (TN.TabIn.set (fun b hb => by have := HSZ.out; omega) HTA.out)).at, TN.below_set (TN.below_set HBA.out (Nat.le_refl _)) (Nat.le_refl _)⟩
  case rest =>
  obtain ⟨rfl, q, pcx, ncx, ccx, prx, nrx, crx, rfl, hq, HKq, HTq, HBq⟩ := hcut
  have HWq := hid (block_on HW4.out HBq.out)
  have z0 := block_cell HWq.out 0
  have z1 := block_cell HWq.out 1
  clear y6 y7
  go_upto_region 12 with (first
    | (go_at_call 26; refine (HCn4.out _ HBq.out).mono ?_; rintro e w5 ⟨v5, rfl, ht5, hb⟩; obtain ⟨pc5, nc5, cc5, pr5, nr5, cr5, rfl⟩ := tab_form ht5; have HT5 := hid ht5; have HB5 := hid (TN.below_on HBq.out hb); have HK5 := hid (block_on HKq.out hb); have HTq5 := hid (HTq.out.on hb); clear hb ht5 z0 z1))
  have k6 := alloc_block w5 (.cells #[.slice pc5 nc5 cc5, .slice pr5 nr5 cr5] 28)
  have ha6 : Below w5.heap.size w5 (w5.alloc (.cells #[.slice pc5 nc5 cc5, .slice pr5 nr5 cr5] 28)) := (Below.refl _ _).alloc (Nat.le_refl _) _
  have HB6 := hid (TN.below_on HB5.out ha6)
  have HT6 := hid (HT5.out.on ha6)
  have HTq6 := hid (HTq5.out.on ha6)
  have HKq6 := hid (block_on HK5.out ha6)
  have HK6 := hid k6
  have HW6 := hid (block_on HW4.out HB6.out)
  clear HT5 HTq5 HK5 HB5 k6 ha6 HTq HKq HWq HBq HCn4 HTop
  have HBW := hid (HB04.out.trans (HB6.out.mono HB04.out.size))
  obtain ⟨qa, hqa⟩ : ∃ qa, w5.heap.size = qa := ⟨_, rfl⟩
  rw [hqa] at HK6 ⊢
  clear hqa
  generalize w5.alloc (.cells #[.slice pc5 nc5 cc5, .slice pr5 nr5 cr5] 28) = w6 at *
  have e1 := (tab_nr HTq6.out).2
  have e2 := (tab_nr HT6.out).2
  have e3 := (tab_nr HT4.out).2
  rw [TN.sortR_length] at e2
  have z1 := block_cell HW6.out 1
  obtain ⟨m, hm⟩ : ∃ m : Nat, nn = (m : Int) := ⟨nn.toNat, by omega⟩
  subst hm
  have nI : (n : Int) ≤ 100 := by have := HLR.out; omega
  have mI : (m : Int) ≤ 1000 := by omega
  simp only [Int.toNat_natCast] at HTq6 e1
  by_cases hge : n ≤ m
  case pos =>
    have d1 : decide ((m : Int) ≥ (n : Int)) = true := decide_eq_true (by omega)
    have geI : (m : Int) ≥ (n : Int) := by omega
    have HTs : Hid (TN.TabAt w6 (.agg #[.slice pcx ncx ccx, .slice prx nrx crx]) cs (TN.sortR rs3)) := hid (by rw [← whole_same (p := c) (n := m) (rs := rs3) (by omega)]; exact HTq6.out)
    have z2 := block_cell HKq6.out
    have z3 := block_cell HK6.out
    clear e1 e2 e3 hge
    go_upto_region 14 with (first
      | (go_at_call 23; refine (TN.rsame_any HTs.out HT6.out).mono ?_; rintro e w7 ⟨rfl, hb⟩; rw [decide_eq_true ⟨rfl, rfl⟩]; have HB7 := hid (TN.below_on HBW.out hb); clear hb z1 z2 z3))
    go_wp2_with fail
    go_ret
    exact ⟨rfl, HB7.out⟩
  have d1 : decide ((m : Int) ≥ (n : Int)) = false := decide_eq_false (by omega)
  have geI : ¬ (m : Int) ≥ (n : Int) := by omega
  have e4 : nrx = m := by rw [e1]; exact whole_len (by omega)
  subst e4
  have HE1 := hid e1
  clear e1
  have z2 := block_cell HKq6.out
  go_upto_region 17 with fail
  have hRl : (topR c nrx rs3).length = nrx := HE1.out.symm
  clear HE1
  obtain ⟨r0, hr0⟩ : ∃ r0, (topR c nrx rs3)[0]? = some r0 := ⟨_, List.getElem?_eq_getElem (by omega)⟩
  have hm0 := List.mem_of_getElem? hr0
  have HRT : Hid (∀ r ∈ topR c nrx rs3, c < r.length ∧ r.length = L) := hid (fun r hr => by have := topR_mem hr; exact ⟨HRc.out r this, HRW.out r this⟩)
  have HRA : Hid (∀ r ∈ TN.sortR rs3, c < r.length ∧ r.length = L) := hid (fun r hr => by have := (TN.sortR_perm rs3).mem_iff.1 hr; exact ⟨HRc.out r this, HRW.out r this⟩)
  have HFew := hid (fun x hx => whole_few (p := c) (n := nrx) (rs := rs3) (x := x) hx)
  have HAL := hid (TN.sortR_length rs3)
  generalize topR c nrx rs3 = R at *
  generalize TN.sortR rs3 = S at *
  have HRl := hid hRl
  obtain ⟨bq, oq, bh, oh, ch, rfl, cell0, V0⟩ := tab_cell HTq6.out hr0 (p := c) (HRT.out _ hm0).1
  rw [(HRT.out _ hm0).2] at cell0
  rw [Nat.add_zero] at cell0
  obtain ⟨v0, v1, v2, v3, v4, v5, v6, v7, v8, v9, v10⟩ := V0
  have HM0 : Hid (∃ r ∈ R, key c r0 = key c r) := hid ⟨r0, hm0, rfl⟩
  generalize key c r0 = x0 at *
  have mP : (0 : Int) < nrx := by omega
  clear hr0 hm0 r0
  go_upto_region 18 with fail
  have HB67 : Hid (Below w6.heap.size w6 (w6.alloc (.cells #[.int .i64 x0.k, .int .i64 x0.n, .string x0.s, .int .i64 x0.h0, .int .i64 x0.h1, .int .i64 x0.h2, .int .i64 x0.h3, .int .i64 x0.h4, .int .i64 x0.h5, .int .i64 x0.h6, .int .i64 x0.h7] 39))) := hid ((Below.refl _ _).alloc (Nat.le_refl _) _)
  have HK7 : Hid ((w6.alloc (.cells #[.int .i64 x0.k, .int .i64 x0.n, .string x0.s, .int .i64 x0.h0, .int .i64 x0.h1, .int .i64 x0.h2, .int .i64 x0.h3, .int .i64 x0.h4, .int .i64 x0.h5, .int .i64 x0.h6, .int .i64 x0.h7] 39)).heap[w6.heap.size]? = some (.cells #[.int .i64 x0.k, .int .i64 x0.n, .string x0.s, .int .i64 x0.h0, .int .i64 x0.h1, .int .i64 x0.h2, .int .i64 x0.h3, .int .i64 x0.h4, .int .i64 x0.h5, .int .i64 x0.h6, .int .i64 x0.h7] 39 (0, 0))) := hid (alloc_block w6 _)
  generalize w6.alloc (.cells #[.int .i64 x0.k, .int .i64 x0.n, .string x0.s, .int .i64 x0.h0, .int .i64 x0.h1, .int .i64 x0.h2, .int .i64 x0.h3, .int .i64 x0.h4, .int .i64 x0.h5, .int .i64 x0.h6, .int .i64 x0.h7] 39) = w7 at *
  clear v0 v1 v2 v3 v4 v5 v6 v7 v8 v9 v10 cell0 z1 z2 cellN HW4 HT4 hcl hnnI HB04 HCK
  go_wp2_with fail
  go_loopw [14] (fun i wr => ∃ (k : Nat) (x : TN.Vl), k ≤ nrx ∧ i = .int .i64 k ∧ Hid (∃ r ∈ R, x = key c r) ∧ Hid (Below w6.heap.size w7 wr) ∧ Hid (wr.heap[w6.heap.size]? = some (.cells #[.int .i64 x.k, .int .i64 x.n, .string x.s, .int .i64 x.h0, .int .i64 x.h1, .int .i64 x.h2, .int .i64 x.h3, .int .i64 x.h4, .int .i64 x.h5, .int .i64 x.h6, .int .i64 x.h7] 39 (0, 0)))) (fun i _ => nrx - (intOf i).toNat)
  case atStart => exact ⟨0, x0, by omega, rfl, HM0.out, Below.refl _ _, HK7.out⟩
  case round =>
    obtain ⟨k, x, hk, rfl, HX, HBr, HKx⟩ := hrel
    by_cases hlt : k < nrx
    · have ltI : (k : Int) < nrx := by omega
      have k0 : (0 : Int) ≤ k := by omega
      have HB6r := hid (HB67.out.trans HBr.out)
      obtain ⟨r, hr⟩ : ∃ r, R[k]? = some r := ⟨_, List.getElem?_eq_getElem (by rw [HRl.out]; exact hlt)⟩
      have hrm := List.mem_of_getElem? hr
      have HTC := hid (fun W (hb : Below w6.heap.size w6 W) => tab_cell (HTq6.out.on hb) hr (p := c) (HRT.out _ hrm).1)
      have HXn : Hid (∃ r' ∈ R, key c r = key c r') := hid ⟨r, hrm, rfl⟩
      rw [(HRT.out _ hrm).2] at HTC
      generalize key c r = y at *
      clear hr hrm
      obtain ⟨b', o', bh', oh', ch', e', cellr, V⟩ := HTC.out _ HB6r.out
      cases e'
      have cc0 := TN.regrown_cell V.c0
      have c1 := TN.regrown_cell V.c1
      have c2 := TN.regrown_cell V.c2
      have c3 := TN.regrown_cell V.c3
      have c4 := TN.regrown_cell V.c4
      have c5 := TN.regrown_cell V.c5
      have c6 := TN.regrown_cell V.c6
      have c7 := TN.regrown_cell V.c7
      have c8 := TN.regrown_cell V.c8
      have c9 := TN.regrown_cell V.c9
      have c10 := TN.regrown_cell V.c10
      have d0 := TN.regrown_cell (block_cell HKx.out 0)
      have d1 := TN.regrown_cell (block_cell HKx.out 1)
      have d2 := TN.regrown_cell (block_cell HKx.out 2)
      have d3 := TN.regrown_cell (block_cell HKx.out 3)
      have d4 := TN.regrown_cell (block_cell HKx.out 4)
      have d5 := TN.regrown_cell (block_cell HKx.out 5)
      have d6 := TN.regrown_cell (block_cell HKx.out 6)
      have d7 := TN.regrown_cell (block_cell HKx.out 7)
      have d8 := TN.regrown_cell (block_cell HKx.out 8)
      have d9 := TN.regrown_cell (block_cell HKx.out 9)
      have d10 := TN.regrown_cell (block_cell HKx.out 10)
      have zt := TN.regrown_cell (block_cell (block_on HKq6.out HB6r.out) 1)
      replace cellr := TN.regrown_cell cellr
      generalize hcv : TN.cmpL y x = cv at *
      have HCV := hid hcv
      clear hcv
      by_cases hz : cv < 0
      · go_wp2_with fail
        refine wp_region_quiet_below (by kernel_rfl) (by kernel_rfl) ?_
        repeat (go_big_quiet_step (first | (go_at_call 34; exact Calls.regrown_of (TN.rcompare_is HCV.out))))
        refine wpQuiet_nil ?_
        intro _ hw'
        obtain ⟨⟨dq, osq⟩, hw''⟩ := hw'
        subst hw''
        have hbg := below_regrown wr dq osq
        have HBg := hid (HBr.out.trans (hbg.mono (by have := lt_of_block HKx.out; omega)))
        have HB6g := hid (HB67.out.trans HBg.out)
        have HKg := hid (block_on HKx.out hbg)
        clear d0 c1 d1 c2 d2 c3 d3 c4 d4 c5 d5 c6 d6 c7 d7 c8 d8 c9 d9 c10 d10 zt cellr cc0
        generalize grow (redrawn wr dq) osq = wg at *
        obtain ⟨b', o', bh2, oh2, ch2, e', cellr, v0, v1, v2, v3, v4, v5, v6, v7, v8, v9, v10⟩ := HTC.out _ HB6g.out
        cases e'
        have zt := block_cell (block_on HKq6.out HB6g.out) 1
        have kx := block_cell HKg.out
        have fx := block_frozen HKg.out
        go_wp2
        go_roundw
        case rel => exact ⟨k + 1, y, by omega, by go_num, HXn.out, below11 HBg.out (Nat.le_refl _) y, set11 HKg.out y⟩
        case measure => simp [intOf]; omega
      · go_wp2_with fail
        refine wp_region_quiet_below (by kernel_rfl) (by kernel_rfl) ?_
        repeat (go_big_quiet_step (first | (go_at_call 34; exact Calls.regrown_of (TN.rcompare_is HCV.out))))
        refine wpQuiet_nil ?_
        intro _ hw'
        obtain ⟨⟨dq, osq⟩, hw''⟩ := hw'
        subst hw''
        have hbg := below_regrown wr dq osq
        have HBg := hid (HBr.out.trans (hbg.mono (by have := lt_of_block HKx.out; omega)))
        have HKg := hid (block_on HKx.out hbg)
        go_wp2
        go_roundw
        case rel => exact ⟨k + 1, x, by omega, by go_num, HX.out, HBg.out, HKg.out⟩
        case measure => simp [intOf]; omega
    · obtain rfl : k = nrx := by omega
      have ltI : ¬ (k : Int) < k := by omega
      obtain ⟨rx, hrx, hxe⟩ := HX.out
      have HF := hid (HFew.out rx hrx)
      rw [← hxe] at HF
      clear hrx hxe HX HFew HTq6 HKq6 HRT HM0 HK7 rx
      have HB6r := hid (HB67.out.trans HBr.out)
      have HSl := hid (show S.length = nr5 by rw [HAL.out, e2])
      have nrI : (nr5 : Int) ≤ 100 := by omega
      clear e2 e3 nI hge d1 HAL HB67 HBr
      obtain ⟨wb, hwb⟩ : ∃ wb, wb = wr := ⟨_, rfl⟩
      have HWB := hid hwb
      clear hwb
      go_wp2_with fail
      go_loopw [15, 16] (fun g i w8 => ∃ (j : Nat), j ≤ nr5 ∧ i = .int .i64 j ∧ Hid (g = .int .i64 (((S.take j).countP (fun r => decide (0 < TN.cmpL (key c r) x)) : Nat) : Int)) ∧ Hid (Below w6.heap.size wb w8) ∧ Hid (w8.heap[w6.heap.size]? = some (.cells #[.int .i64 x.k, .int .i64 x.n, .string x.s, .int .i64 x.h0, .int .i64 x.h1, .int .i64 x.h2, .int .i64 x.h3, .int .i64 x.h4, .int .i64 x.h5, .int .i64 x.h6, .int .i64 x.h7] 39 (0, 0)))) (fun g i _ => nr5 - (intOf i).toNat)
      case atStart => exact ⟨0, by omega, rfl, rfl, by rw [HWB.out]; exact Below.refl _ _, HKx.out⟩
      case round =>
        obtain ⟨j, hj, rfl, HG, HB8, HK8⟩ := hrel
        have hg := HG.out
        subst hg
        have HB68 := hid (HB6r.out.trans (by rw [← HWB.out]; exact HB8.out))
        have zt6 := block_cell (block_on HK6.out HB68.out) 1
        by_cases hlt2 : j < nr5
        · have ltI2 : (j : Int) < nr5 := by omega
          have j0 : (0 : Int) ≤ j := by omega
          obtain ⟨r, hr⟩ : ∃ r, S[j]? = some r := ⟨_, List.getElem?_eq_getElem (by rw [HSl.out]; exact hlt2)⟩
          have hrm := List.mem_of_getElem? hr
          have HCT := hid (count_take (p := c) (x := x) hr)
          obtain ⟨b2, o2, bh', oh', ch', e', cellr, V⟩ := tab_cell (HT6.out.on HB68.out) hr (p := c) (HRA.out _ hrm).1
          subst e'
          rw [(HRA.out _ hrm).2] at cellr
          have hcl : (S.take j).countP (fun r => decide (0 < TN.cmpL (key c r) x)) ≤ 100 := by
            have h1 : (S.take j).countP (fun r => decide (0 < TN.cmpL (key c r) x)) ≤ (S.take j).length := List.countP_le_length
            rw [List.length_take] at h1
            have := HSl.out
            omega
          generalize key c r = y at *
          clear hr hrm
          generalize (S.take j).countP (fun r => decide (0 < TN.cmpL (key c r) x)) = g at *
          have gI : (g : Int) ≤ 100 := by omega
          have cc0 := TN.regrown_cell V.c0
          have cc1 := TN.regrown_cell V.c1
          have cc2 := TN.regrown_cell V.c2
          have cc3 := TN.regrown_cell V.c3
          have cc4 := TN.regrown_cell V.c4
          have cc5 := TN.regrown_cell V.c5
          have cc6 := TN.regrown_cell V.c6
          have cc7 := TN.regrown_cell V.c7
          have cc8 := TN.regrown_cell V.c8
          have cc9 := TN.regrown_cell V.c9
          have cc10 := TN.regrown_cell V.c10
          have d0 := TN.regrown_cell (block_cell HK8.out 0)
          have d1 := TN.regrown_cell (block_cell HK8.out 1)
          have d2 := TN.regrown_cell (block_cell HK8.out 2)
          have d3 := TN.regrown_cell (block_cell HK8.out 3)
          have d4 := TN.regrown_cell (block_cell HK8.out 4)
          have d5 := TN.regrown_cell (block_cell HK8.out 5)
          have d6 := TN.regrown_cell (block_cell HK8.out 6)
          have d7 := TN.regrown_cell (block_cell HK8.out 7)
          have d8 := TN.regrown_cell (block_cell HK8.out 8)
          have d9 := TN.regrown_cell (block_cell HK8.out 9)
          have d10 := TN.regrown_cell (block_cell HK8.out 10)
          have zt := TN.regrown_cell (block_cell (block_on HK6.out HB68.out) 1)
          replace cellr := TN.regrown_cell cellr
          generalize hcv : TN.cmpL y x = cv at *
          have HCV := hid hcv
          clear hcv
          by_cases hz : 0 < cv
          · have hz2 : cv > 0 := hz
            have HC2 := HCT.out
            rw [if_pos hz] at HC2
            have HC3 := hid HC2
            clear HC2
            go_wp2_with fail
            refine wp_region_quiet_below (by kernel_rfl) (by kernel_rfl) ?_
            repeat (go_big_quiet_step (first | (go_at_call 34; exact Calls.regrown_of (TN.rcompare_is HCV.out))))
            refine wpQuiet_nil ?_
            intro _ hw'
            obtain ⟨⟨dq, osq⟩, hw''⟩ := hw'
            subst hw''
            have hbg := below_regrown wr dq osq
            have HBg := hid (HB8.out.trans (hbg.mono (by have := lt_of_block HK8.out; omega)))
            have HKg := hid (block_on HK8.out hbg)
            go_wp2
            go_roundw
            case rel => exact ⟨j + 1, by omega, by go_num, by show _ = _; rw [HC3.out]; go_num, HBg.out, HKg.out⟩
            case measure => simp [intOf]; omega
          · have hz2 : ¬ cv > 0 := hz
            have HC2 := HCT.out
            rw [if_neg hz] at HC2
            have HC3 := hid HC2
            clear HC2
            go_wp2_with fail
            refine wp_region_quiet_below (by kernel_rfl) (by kernel_rfl) ?_
            repeat (go_big_quiet_step (first | (go_at_call 34; exact Calls.regrown_of (TN.rcompare_is HCV.out))))
            refine wpQuiet_nil ?_
            intro _ hw'
            obtain ⟨⟨dq, osq⟩, hw''⟩ := hw'
            subst hw''
            have hbg := below_regrown wr dq osq
            have HBg := hid (HB8.out.trans (hbg.mono (by have := lt_of_block HK8.out; omega)))
            have HKg := hid (block_on HK8.out hbg)
            go_wp2
            go_roundw
            case rel => exact ⟨j + 1, by omega, by go_num, by show _ = _; rw [HC3.out]; go_num, HBg.out, HKg.out⟩
            case measure => simp [intOf]; omega
        · obtain rfl : j = nr5 := by omega
          have ltI2 : ¬ (j : Int) < j := by omega
          have hft : (S.take j) = S := List.take_of_length_le (by rw [HSl.out]; exact Nat.le_refl _)
          have hf := HF.out
          rw [hft]
          generalize S.countP (fun r => decide (0 < TN.cmpL (key c r) x)) = g at *
          have gI : (g : Int) < k := by omega
          clear hft hf
          go_wp2
          go_ret
          exact ⟨rfl, HBW.out.trans (HB68.out.mono HBW.out.size)⟩
end Go.Proofs.Ytcidijjbcebcbaa.RO
namespace Go.Proofs.Ytcidijjbcebcbaa.TN
open Go.ChangeShapes Go.WideShapes Go.ChangeAt Go.WideMaps Go.WideElems Go.RowKit Go.Joins

theorem own : ownKnob Try.prog.godebug = none := by kernel_rfl
theorem laidOut : laidOutB Try.prog = true := by kernel_rfl
theorem cells3 : Try.prog.cellsOf 3 = 1 := by kernel_rfl
theorem cells9 : Try.prog.cellsOf 9 = 1 := by kernel_rfl
theorem cells22 : Try.prog.cellsOf 25 = 1 := by kernel_rfl
theorem cells23 : Try.prog.cellsOf 26 = 1 := by kernel_rfl
theorem cells25 : Try.prog.cellsOf 28 = 2 := by kernel_rfl
theorem cells35 : Try.prog.cellsOf 33 = 1 := by kernel_rfl
theorem cells45 : Try.prog.cellsOf 61 = 2 := by kernel_rfl
theorem cells46 : Try.prog.cellsOf 37 = 8 := by kernel_rfl
theorem cells48 : Try.prog.cellsOf 39 = 11 := by kernel_rfl
theorem bytes35 : Try.prog.bytesOf 33 = bsz 1 := by kernel_rfl
theorem bytes45 : Try.prog.bytesOf 61 = bsz 2 := by kernel_rfl
theorem bytes48 : Try.prog.bytesOf 39 = bsz 11 := by kernel_rfl
def Ok64 (n : Int) : Prop := -9223372036854775808 ≤ n ∧ n ≤ 9223372036854775807
theorem ok64_of {n : Int} (h : (Lit.int .i64 n).wf = true) : Ok64 n := by
  have e1 : IntKind.i64.min = -9223372036854775808 := rfl
  have e2 : IntKind.i64.max = 9223372036854775807 := rfl
  simp [Lit.wf, e1, e2] at h
  exact h
/- Each string and each slice of it takes no more than the form's reach. -/
def Fit {H : Type} (t : TypeId) (d : DataW H) : Prop := ∀ n ∈ d.weights Try.prog t, n ≤ reachBytes
theorem weightsAll_mem {H : Type} {e : TypeId} : ∀ {l : List (DataW H)} {d : DataW H}, d ∈ l → ∀ n ∈ d.weights Try.prog e, n ∈ DataW.weightsAll Try.prog e l
  | d' :: r, d, hd, n, hn => by
    simp only [DataW.weightsAll, List.mem_append]
    rcases List.mem_cons.1 hd with rfl | h
    · exact Or.inl hn
    · exact Or.inr (weightsAll_mem h n hn)
section
variable {H : Type} {enc : TypeId × Value → H} {W : World} {base : Nat} {spare : Nat → Bool} {held : Bool}
theorem fit_elem {t e : TypeId} (ht : Try.prog.underlying t = some (.slice e)) {es sp : List (DataW H)} (hf : Fit t (.slice es sp)) : (∀ d ∈ es, Fit e d) ∧ es.length * Try.prog.bytesOf e ≤ 140737488355328 := by
  constructor
  · intro d hd n hn
    exact hf n (by simp only [DataW.weights, ht, List.mem_cons, List.mem_append]; exact Or.inr (Or.inl (weightsAll_mem hd n hn)))
  · have := hf ((es.length + sp.length) * Try.prog.bytesOf e) (by simp only [DataW.weights, ht]; exact List.mem_cons_self ..)
    unfold reachBytes at this
    have h2 : es.length * Try.prog.bytesOf e ≤ (es.length + sp.length) * Try.prog.bytesOf e := Nat.mul_le_mul_right _ (Nat.le_add_right _ _)
    omega
/- A slice, elements that open one by one. -/
theorem open_sl {α : Type} [Inhabited α] {en : α → List Value} {k : Nat} {Good : α → Prop} {t e : TypeId} (ht : Try.prog.underlying t = some (.slice e)) (hc : Try.prog.cellsOf e = k) (hk : 0 < k) (hen : ∀ x, (en x).length = k) (hb : Try.prog.bytesOf e ≥ bsz k)
    (each : ∀ n cs (y : DataW H × List MemPlace), DataW.trod enc Try.prog W base spare held n e cs = some y → Fit e y.1 → ∃ x, cs = en x ∧ Good x) {fuel : Nat} {v : Value} {y : DataW H × List MemPlace}
    (h : DataW.trod enc Try.prog W base spare held fuel t [v] = some y) (hf : Fit t y.1) : ∃ xs, SlAt any en k W v xs ∧ ∀ x ∈ xs, Good x := by
  rcases Deep.open_slice ht h with ⟨hcs, _⟩ | ⟨a, len, cap, m, n, D, Pl, hcs, hba, hl, hm, hmm, hx, hall⟩
  · cases hcs
    exact ⟨[], SlAt.nil _ _ _ _, fun x hx => by cases hx⟩
  · cases hcs
    subst hx
    have hlm : len ≤ m := by rw [hmm]; split <;> omega
    obtain ⟨hfe, hbe⟩ := fit_elem ht hf
    obtain ⟨X, hX⟩ := Deep.choose_lt (α := α) (n := len) (p := fun i x => W.cells? base (a.add (i * k)) k = some (en x) ∧ Good x) (fun i hi => by
      obtain ⟨cs', h1, h2⟩ := hall i (by omega)
      rw [hc] at h1
      obtain ⟨x, rfl, hg⟩ := each n cs' _ h2 (hfe _ (List.mem_map.2 ⟨i, List.mem_range.2 hi, rfl⟩))
      exact ⟨x, h1, hg⟩)
    have hlen : ((List.range len).map X).length = len := by simp
    refine ⟨(List.range len).map X, ⟨some a, cap, by rw [hlen], ⟨by rw [hlen]; exact hl, fun e => by cases e⟩, by rw [hlen]; omega, fun hne => ?_⟩, ?_⟩
    · have h0 : 0 < len := Nat.pos_of_ne_zero (fun e => hne (by rw [e]; rfl))
      obtain ⟨b, off, spot⟩ := a
      have hsp : spot = none := by
        have h1 := (World.cells?_some (hX 0 h0).1).2.2 0 hk
        rw [Nat.zero_mul] at h1
        have h2 : (en (X 0))[0]? = some ((en (X 0))[0]'(by rw [hen]; exact hk)) := List.getElem?_eq_getElem _
        rw [h2] at h1
        simpa [Addr.add] using World.cell?_spot h1
      subst hsp
      refine ⟨b, off, rfl, ⟨trivial, ?_⟩, fun j x hj i u hu => ?_⟩
      · rw [hlen]
        simp only [List.length_map, List.length_range] at hbe
        exact Nat.le_trans (Nat.mul_le_mul_left _ hb) hbe
      · have hj' : j < len := by have := (List.getElem?_eq_some_iff.1 hj).1; rwa [hlen] at this
        have hxj : X j = x := by simpa [List.getElem?_map, List.getElem?_range hj'] using hj
        subst hxj
        have hi : i < k := by have := (List.getElem?_eq_some_iff.1 hu).1; rwa [hen] at this
        have h1 := (World.cells?_some (hX j hj').1).2.2 i hi
        rw [hu, Addr.add_lit, Addr.add_lit] at h1
        exact h1
    · intro x hx
      obtain ⟨i, hi, rfl⟩ := List.mem_map.1 hx
      exact (hX i (List.mem_range.1 hi)).2
set_option maxRecDepth 100000 in
theorem open_cells8 {m : Nat} {cs : List Value} {y : DataW H × List MemPlace} (h : DataW.trod enc Try.prog W base spare held m 37 cs = some y) :
    ∃ a0 a1 a2 a3 a4 a5 a6 a7 : Int, cs = [.int .i64 a0, .int .i64 a1, .int .i64 a2, .int .i64 a3, .int .i64 a4, .int .i64 a5, .int .i64 a6, .int .i64 a7] := by
  obtain ⟨xs, m1, rfl, hx1, hlen, hn, hel⟩ := DataW.trod_array Try.underlying37 h
  rw [cells46] at hlen
  rw [cells3] at hel
  match cs, hlen with
  | [c0, c1, c2, c3, c4, c5, c6, c7], _ =>
    match xs, hn with
    | [x0, x1, x2, x3, x4, x5, x6, x7], _ =>
      obtain ⟨a0, e0, _⟩ := DataW.trod_int Try.underlying3 (show DataW.trod enc Try.prog W base spare held m1 3 _ = some x0 from hel 0 (by decide))
      obtain ⟨a1, e1, _⟩ := DataW.trod_int Try.underlying3 (show DataW.trod enc Try.prog W base spare held m1 3 _ = some x1 from hel 1 (by decide))
      obtain ⟨a2, e2, _⟩ := DataW.trod_int Try.underlying3 (show DataW.trod enc Try.prog W base spare held m1 3 _ = some x2 from hel 2 (by decide))
      obtain ⟨a3, e3, _⟩ := DataW.trod_int Try.underlying3 (show DataW.trod enc Try.prog W base spare held m1 3 _ = some x3 from hel 3 (by decide))
      obtain ⟨a4, e4, _⟩ := DataW.trod_int Try.underlying3 (show DataW.trod enc Try.prog W base spare held m1 3 _ = some x4 from hel 4 (by decide))
      obtain ⟨a5, e5, _⟩ := DataW.trod_int Try.underlying3 (show DataW.trod enc Try.prog W base spare held m1 3 _ = some x5 from hel 5 (by decide))
      obtain ⟨a6, e6, _⟩ := DataW.trod_int Try.underlying3 (show DataW.trod enc Try.prog W base spare held m1 3 _ = some x6 from hel 6 (by decide))
      obtain ⟨a7, e7, _⟩ := DataW.trod_int Try.underlying3 (show DataW.trod enc Try.prog W base spare held m1 3 _ = some x7 from hel 7 (by decide))
      simp at e0 e1 e2 e3 e4 e5 e6 e7
      subst e0 e1 e2 e3 e4 e5 e6 e7
      exact ⟨a0, a1, a2, a3, a4, a5, a6, a7, rfl⟩
set_option maxRecDepth 100000 in
theorem open_val {m : Nat} {cs : List Value} {y : DataW H × List MemPlace} (h : DataW.trod enc Try.prog W base spare held m 39 cs = some y) : ∃ x : Vl, cs = x.cells := by
  obtain ⟨y0, y1, y2, y3, n, hx, hl, h0, h1, h2, h3⟩ := trod_struct4 Try.underlying39 h
  rw [cells48] at hl
  replace h0 : DataW.trod enc Try.prog W base spare held n 3 ((cs.drop 0).take (Try.prog.cellsOf 3)) = some y0 := h0
  replace h1 : DataW.trod enc Try.prog W base spare held n 3 ((cs.drop 1).take (Try.prog.cellsOf 3)) = some y1 := h1
  replace h2 : DataW.trod enc Try.prog W base spare held n 9 ((cs.drop 2).take (Try.prog.cellsOf 9)) = some y2 := h2
  replace h3 : DataW.trod enc Try.prog W base spare held n 37 ((cs.drop 3).take (Try.prog.cellsOf 37)) = some y3 := h3
  rw [cells3] at h0 h1
  rw [cells9] at h2
  rw [cells46] at h3
  match cs, hl with
  | [c0, c1, c2, c3, c4, c5, c6, c7, c8, c9, c10], _ =>
    obtain ⟨k, e0, _⟩ := DataW.trod_int Try.underlying3 h0
    obtain ⟨n, e1, _⟩ := DataW.trod_int Try.underlying3 h1
    obtain ⟨s, e2, _, w2⟩ := DataW.trod_string Try.underlying9 h2
    obtain ⟨a0, a1, a2, a3, a4, a5, a6, a7, e3⟩ := open_cells8 h3
    simp at e0 e1 e2 e3
    obtain ⟨e3, e4, e5, e6, e7, e8, e9, e10⟩ := e3
    subst e0 e1 e2 e3 e4 e5 e6 e7 e8 e9 e10
    exact ⟨⟨k, n, s, a0, a1, a2, a3, a4, a5, a6, a7, w2⟩, rfl⟩
theorem open_col {m : Nat} {cs : List Value} {y : DataW H × List MemPlace} (h : DataW.trod enc Try.prog W base spare held m 61 cs = some y) : ∃ x : Cl, cs = x.cells := by
  obtain ⟨y0, y1, n, hx, hl, h0, h1⟩ := trod_struct2 Try.underlying61 h
  rw [cells45] at hl
  replace h0 : DataW.trod enc Try.prog W base spare held n 9 ((cs.drop 0).take (Try.prog.cellsOf 9)) = some y0 := h0
  replace h1 : DataW.trod enc Try.prog W base spare held n 3 ((cs.drop 1).take (Try.prog.cellsOf 3)) = some y1 := h1
  rw [cells9] at h0
  rw [cells3] at h1
  match cs, hl with
  | [c0, c1], _ =>
    obtain ⟨s, e0, _, w0⟩ := DataW.trod_string Try.underlying9 h0
    obtain ⟨k, e1, _⟩ := DataW.trod_int Try.underlying3 h1
    simp at e0 e1
    subst e0 e1
    exact ⟨⟨s, k, w0⟩, rfl⟩
instance : Inhabited Vl := ⟨⟨0, 0, ⟨#[]⟩, 0, 0, 0, 0, 0, 0, 0, 0, by decide⟩⟩
theorem open_row {fuel : Nat} {v : Value} {y : DataW H × List MemPlace} (h : DataW.trod enc Try.prog W base spare held fuel 33 [v] = some y) (hf : Fit 33 y.1) : ∃ r : Rw, RowAt W v r := by
  obtain ⟨r, hr, _⟩ := open_sl (α := Vl) (en := Vl.cells) (k := 11) (Good := fun _ => True) Try.underlying33 cells48 (by decide) vl_len (by rw [bytes48]; exact Nat.le_refl _) (fun n cs y h _ => let ⟨x, hx⟩ := open_val h; ⟨x, hx, trivial⟩) h hf
  exact ⟨r, hr⟩
theorem open_cols {fuel : Nat} {v : Value} {y : DataW H × List MemPlace} (h : DataW.trod enc Try.prog W base spare held fuel 25 [v] = some y) (hf : Fit 25 y.1) : ∃ cs : List Cl, ColsAt W v cs := by
  obtain ⟨r, hr, _⟩ := open_sl (α := Cl) (en := Cl.cells) (k := 2) (Good := fun _ => True) Try.underlying25 cells45 (by decide) cl_len (by rw [bytes45]; exact Nat.le_refl _) (fun n cs y h _ => let ⟨x, hx⟩ := open_col h; ⟨x, hx, trivial⟩) h hf
  exact ⟨r, hr⟩
def enP (x : Value × Rw) : List Value := [x.1]
instance : Inhabited (Value × Rw) := ⟨(.bool false, [])⟩
theorem open_rows {fuel : Nat} {v : Value} {y : DataW H × List MemPlace} (h : DataW.trod enc Try.prog W base spare held fuel 26 [v] = some y) (hf : Fit 26 y.1) : ∃ rs : List Rw, RowsAt W v rs := by
  obtain ⟨xs, ⟨p, cap, hv, hc, hm, hx⟩, hg⟩ := open_sl (α := Value × Rw) (en := enP) (k := 1) (Good := fun x => RowAt W x.1 x.2) Try.underlying26 cells35 (by decide) (fun _ => rfl) (by rw [bytes35]; exact Nat.le_refl _) (fun n cs y h hf => by
    have hl : cs.length = 1 := by rcases DataW.trod_slice Try.underlying33 h with ⟨e, _⟩ | ⟨_, _, _, _, _, _, _, e, _⟩ <;> (subst e; rfl)
    match cs, hl with
    | [u], _ =>
      obtain ⟨r, hr⟩ := open_row h hf
      exact ⟨(u, r), rfl, hr⟩) h hf
  refine ⟨xs.map (·.2), xs.map (·.1), ⟨p, cap, by rw [List.length_map]; exact hv, by rw [List.length_map]; exact hc, by rw [List.length_map]; exact hm, fun hne => ?_⟩, by simp, fun j u r h1 h2 => ?_⟩
  · obtain ⟨b, o, hp, hQ, hj⟩ := hx (by intro e; subst e; simp at hne)
    refine ⟨b, o, hp, by rw [List.length_map]; exact hQ, fun j u hju => ?_⟩
    rw [List.getElem?_map] at hju
    cases hxj : xs[j]? with
    | none => rw [hxj] at hju; cases hju
    | some x => rw [hxj] at hju; cases hju; exact hj j x hxj
  · rw [List.getElem?_map] at h1 h2
    cases hxj : xs[j]? with
    | none => rw [hxj] at h1; cases h1
    | some x =>
      rw [hxj] at h1 h2
      cases h1; cases h2
      exact hg x (List.mem_of_getElem? hxj)
set_option maxRecDepth 100000 in
theorem open_tab {r : Reach} {b0 : Nat} {v : Value} {d : DataW H} {p : List MemPlace} (hv : Value.okWide Try.prog W r b0 28 v) (h : DataW.Trod enc Try.prog W base spare held 28 v d p) (hf : Fit 28 d) : ∃ cs rs, TabAt W v cs rs := by
  obtain ⟨cs, rfl, hsz⟩ := okWide_struct Try.underlying28 hv
  obtain ⟨fuel, hfu⟩ := h
  obtain ⟨y0, y1, n, hx, hl, h0, h1⟩ := trod_struct2 Try.underlying28 hfu
  rw [cells25] at hl
  obtain ⟨l⟩ := cs
  replace hl : l.length = 2 := hl
  replace h0 : DataW.trod enc Try.prog W base spare held n 25 ((l.drop 0).take (Try.prog.cellsOf 25)) = some y0 := h0
  replace h1 : DataW.trod enc Try.prog W base spare held n 26 ((l.drop 1).take (Try.prog.cellsOf 26)) = some y1 := h1
  rw [cells22] at h0
  rw [cells23] at h1
  cases hx
  match l, hl with
  | [c, q], _ =>
    have f0 : Fit 25 y0.1 := fun m hm => hf m (by simp only [DataW.weights, Try.underlying28]; exact DataW.weights_mem_each (j := 0) (t := 25) rfl rfl m hm)
    have f1 : Fit 26 y1.1 := fun m hm => hf m (by simp only [DataW.weights, Try.underlying28]; exact DataW.weights_mem_each (j := 1) (t := 26) rfl rfl m hm)
    obtain ⟨cl, hc⟩ := open_cols h0 f0
    obtain ⟨rs, hr⟩ := open_rows h1 f1
    exact ⟨cl, rs, c, q, rfl, hc, hr⟩
set_option maxRecDepth 100000 in
theorem fit_of {ts : List TypeId} {ds : List (DataW H)} (h : (DataW.weightsEach Try.prog ts ds).all (· ≤ reachBytes) = true) {j : Nat} {t : TypeId} {d : DataW H} (ht : ts[j]? = some t) (hd : ds[j]? = some d) : Fit t d := fun n hn => by
  exact of_decide_eq_true (List.all_eq_true.1 h n (DataW.weights_mem_each ht hd n hn))
end
end Go.Proofs.Ytcidijjbcebcbaa.TN
