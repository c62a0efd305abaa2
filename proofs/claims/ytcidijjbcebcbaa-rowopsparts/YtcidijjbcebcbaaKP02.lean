/-
  RowopsParts, walked: its head.
-/
import Derived.Test.YtcidijjbcebcbaaKW15
import Derived.Test.YtcidijjbcebcbaaKW18
import Derived.Test.YtcidijjbcebcbaaKW21
import Derived.Test.YtcidijjbcebcbaaKP01
import Derived.Deep.RegionHeld3
namespace Go.Proofs.Ytcidijjbcebcbaa.RO
open Go.RowKit Go.Joins Go.Sort

set_option maxRecDepth 100000 in
set_option maxHeartbeats 16000000 in
theorem parts_any {tv : Value} {cs : List TN.Cl} {rs : List TN.Rw} {n0 n1 ky : Int} {w : World} (ht : TN.TabAt w tv cs rs) (hn0 : InI n0) (hn1 : InI n1) (hky : InI ky) : Calls Try.prog 9 #[tv, .agg #[.int .i64 n0, .int .i64 n1], .int .i64 ky] w fun e w' => e = .returned (.bool true) ∧ Below w.heap.size w w' := by
  obtain ⟨cv, rv, rfl, hcs, hs, hrs, hhs⟩ := ht
  have hb0 : Below w.heap.size w ((w.alloc (.cells #[cv, rv] 28)).alloc (.cells #[.int .i64 n0, .int .i64 n1] 58)) := ((Below.refl _ _).alloc (Nat.le_refl _) _).alloc (by simp) _
  have hK0 := block_on (alloc_block w (.cells #[cv, rv] 28)) ((Below.refl _ _).alloc (Nat.le_refl _) (.cells #[.int .i64 n0, .int .i64 n1] 58))
  have HN0 := hid (TN.alloc_blk2 w (.cells #[cv, rv] 28) (.cells #[.int .i64 n0, .int .i64 n1] 58))
  have HB0 := hid hb0
  have HK0 := hid hK0
  have HC0 := hid ((TN.SlAt.low hcs (by decide) TN.cl_len).imp (fun b hb => hb.2) |>.on hb0)
  have HR0 := hid ((TN.SlAt.low hrs (by decide) TN.one_len).imp (fun b hb => hb.2) |>.on hb0)
  have HH0 := hid (TN.HeadsIn.on (TN.heads_low hhs) hb0)
  have HI0 := hid hn0
  have HI1 := hid hn1
  have HKY := hid hky
  have HSh := hid shown6_any
  obtain ⟨pc, cc, rfl, -⟩ := hcs
  obtain ⟨pr0, cr0, rfl, -⟩ := hrs
  clear hb0 hK0 hhs hn0 hn1 hky
  go_enter Try.func9, Try.ntmps9
  go_upto_region 1 with fail
  generalize (w.alloc (.cells #[.slice pc cs.length cc, .slice pr0 hs.length cr0] 28)).alloc (.cells #[.int .i64 n0, .int .i64 n1] 58) = w0 at *
  have y0 : w0.cell? ⟨w.heap.size, 0, none⟩ = some (.slice pc cs.length cc) := block_cell HK0.out 0
  have y1 : w0.cell? ⟨w.heap.size, 1, none⟩ = some (.slice pr0 hs.length cr0) := block_cell HK0.out 1
  go_upto_region 2 with (first
    | (go_at_call 28; refine (HSh.out _).mono ?_; rintro e w1 ⟨rfl, hb⟩; have HB1 := hid (HB0.out.trans (hb.mono HB0.out.size)); have hk1 := block_on HK0.out hb; have HK1 := hid hk1; have HN1 := hid (block_on HN0.out hb); have y2 := block_cell hk1 0; have y3 := block_cell hk1 1; have HC1 := hid (HC0.out.on hb); have HR1 := hid (HR0.out.on hb); have HH1 := hid (HH0.out.on hb); clear hb hk1 y0 y1))
  go_upto_region 3 with (first
    | (go_at_call 29; refine (TN.cut6_q HC1.out HR1.out HH1.out).mono ?_; rintro e w2 ⟨r2, rfl, hr2, hh2, hb⟩; have hr1 : (rs.take 100).length ≤ 100 := (by rw [List.length_take]; omega); generalize hs.take 100 = hs3 at *; generalize rs.take 100 = rs3 at *; have HLR := hid hr1; obtain ⟨n, hn⟩ : ∃ n, hs3.length = n := ⟨_, rfl⟩; have HN := hid hn; have HB2 := hid (HB1.out.trans (hb.mono HB1.out.size)); have hk2 := block_on HK1.out hb; have HK2 := hid hk2; have HN2 := hid (block_on HN1.out hb); have y4 := block_cell hk2 0; have y5 := block_cell hk2 1; have y6 := block_frozen hk2 0; have y7 := block_frozen (block_set hk2 0 (.slice pc cs.length cc)) 1; have y8 := block_cell (block_set hk2 0 (.slice pc cs.length cc)) 1; have HC2 := hid (HC1.out.on hb); have HR2 := hid hr2; have HH2 := hid hh2; obtain ⟨pr, cr, rfl, -⟩ := hr2; rw [hn] at HR2 ⊢; clear hb hk2 y2 y3 hh2 hr1 hn))
  have hkf : Kp (fun b => b = w.heap.size) w2 ((w2.setCell ⟨w.heap.size, 0, none⟩ (.slice pc cs.length cc)).setCell ⟨w.heap.size, 1, none⟩ (.slice pr n cr)) := (Kp.set (T := fun b => b = w.heap.size) rfl _).trans (Kp.set (T := fun b => b = w.heap.size) rfl _)
  have KF := block_set (block_set HK2.out 0 (.slice pc cs.length cc)) 1 (.slice pr n cr)
  have hwz : w.heap.size ≤ w2.heap.size := HB2.out.size
  have HT3 : Hid (TN.TabAt ((w2.setCell ⟨w.heap.size, 0, none⟩ (.slice pc cs.length cc)).setCell ⟨w.heap.size, 1, none⟩ (.slice pr n cr)) (.agg #[.slice pc cs.length cc, .slice pr n cr]) cs rs3) := hid ((TN.TabIn.set (Q := fun b => b < w.heap.size) (fun b hb => by omega) (TN.TabIn.set (fun b hb => by omega) ⟨_, _, rfl, HC2.out, hs3, HR2.out, HH2.out⟩)).imp (fun _ _ => trivial))
  have HN3 := hid (TN.far_set (TN.far_set (R := w.heap.size) (i := 0) (u := .slice pc cs.length cc) HN2.out (by omega)) (R := w.heap.size) (i := 1) (u := .slice pr n cr) (by omega))
  have HB3 := hid (HB2.out.trans (hkf.below HB2.out.size (fun b e => by omega)))
  clear y4 y5 y6 y7 y8 hkf HC2 HR2 HH2 HK2 hwz
  have HW3 := hid KF
  clear KF
  generalize (w2.setCell ⟨w.heap.size, 0, none⟩ (.slice pc cs.length cc)).setCell ⟨w.heap.size, 1, none⟩ (.slice pr n cr) = w3 at *
  have hrl : rs3.length ≤ 1000000 := by have := HLR.out; omega
  have HCh := hid (fun W (hb : Below w3.heap.size w3 W) => TN.rcheck_any (HT3.out.on hb))
  have HZ := hid (show TN.checkV cs rs3 = TN.checkV cs rs3 from rfl)
  have y4 : w3.cell? ⟨w.heap.size, 0, none⟩ = some (.slice pc cs.length cc) := block_cell HW3.out 0
  have y5 : w3.cell? ⟨w.heap.size, 1, none⟩ = some (.slice pr n cr) := block_cell HW3.out 1
  clear hrl
  by_cases hck : TN.checkV cs rs3 = 0
  case neg =>
    have zb : (TN.checkV cs rs3 != 0) = true := by simp; exact hck
    go_wp2_with (first
      | (go_at_call 32; refine (HCh.out _ (Below.refl _ _)).mono ?_; rintro e w4 ⟨rfl, hb⟩; have HB4 := hid (HB3.out.trans (hb.mono HB3.out.size)); clear hb y4 y5))
    go_ret
    exact ⟨rfl, HB4.out⟩
  have zb : (TN.checkV cs rs3 != 0) = false := by simp [hck]
  have hcl : 1 ≤ cs.length ∧ cs.length ≤ 16 := by
    exact (chk_parts hck).1
  go_upto_region 5 with (first
    | (go_at_call 32; refine (HCh.out _ (Below.refl _ _)).mono ?_; rintro e w4 ⟨rfl, hb⟩; have HB4 := hid hb; have HW4 := hid (block_on HW3.out hb); have HN4 := hid (block_on HN3.out hb); have y6 := block_cell HW4.out 0; have y7 := block_cell HW4.out 1; clear hb y4 y5))
  have HCK := hid hck
  have hkyI := HKY.out
  unfold InI at hkyI
  have HB04 := hid (HB3.out.trans (HB4.out.mono HB3.out.size))
  have HT4 := hid (HT3.out.on HB4.out)
  have HCP := hid (chk_parts hck)
  clear HCh HT3 HB4 HW3 HB3 HB2 HB1 HB0 HC0 HR0 HH0 HC1 HR1 HH1 HK0 HK1 zb hck HZ HSh HN0 HN1 HN2 HN3
  obtain ⟨L, hLc⟩ : ∃ L, cs.length = L := ⟨_, rfl⟩
  have HLc := hid hLc
  rw [hLc] at hcl
  simp only [hLc] at HT4 HW4 y6 y7
  rw [hLc]
  clear hLc
  go_upto_if 35 with fail
  go_cut [2] from 34 to 38 (fun x wx => ∃ A : Int, x = .int .i64 A ∧ 0 ≤ A ∧ A ≤ 9223372036854775807 ∧ wx = w4)
  case first =>
    by_cases hs : ky < 0
    · go_wp2_with fail
      go_meet
      case rel => exact ⟨_, rfl, by omega, by omega, rfl⟩
    · go_wp2_with fail
      go_meet
      case rel => exact ⟨_, rfl, by omega, by omega, rfl⟩
  case rest =>
  obtain ⟨A, rfl, hA0, hA1, hwc⟩ := hcut
  replace hwc := hwc.symm
  subst hwc
  have hL0 : (L : Int) ≠ 0 := by omega
  obtain ⟨c, hAc⟩ : ∃ c : Nat, A % (L : Int) = (c : Int) := ⟨(A % (L : Int)).toNat, by have := Int.emod_nonneg A hL0; omega⟩
  have hc1 : c < L := by have := Int.emod_lt_of_pos A (b := (L : Int)) (by omega); omega
  have hrem : A.tmod (L : Int) = (c : Int) := by rw [Int.tmod_eq_emod_of_nonneg hA0]; exact hAc
  have hL0n : ¬ L = 0 := by omega
  have hL0m : (L == 0) = false := by simp [hL0n]
  have cI : (c : Int) < (L : Int) := by omega
  have c0 : (0 : Int) ≤ c := by omega
  clear hAc
  have LI : (L : Int) ≤ 16 := by omega
  obtain ⟨bc, oc, rfl, cellN, cellK⟩ := tab_col HT4.out (p := c) (by rw [HLc.out]; exact hc1)
  have HFc := hid (HCP.out.2.1 c (by rw [HLc.out]; exact hc1))
  have hS4 : A3 ⟨w.heap.size, 0, none⟩ ⟨bc, oc + c * 2, none⟩ ⟨bc, oc + c * 2 + 1, none⟩ (.slice (some ⟨bc, oc, none⟩) L cc) (.string cs[c]!.nm) (.int .i64 cs[c]!.kd) w4 := ⟨block_cell HW4.out 0, cellN, cellK⟩
  have hg0 : w4.heap.size ≠ w.heap.size := by have := lt_of_block HW4.out; omega
  have hg2 : w4.heap.size ≠ bc := by have := block_lt_of_cell cellN; simp only at this; omega
  clear y6 y7 cellN cellK
  go_upto_region 7 with fail
  generalize hnm : cs[c]!.nm = nm at hS4 ⊢
  generalize hkd : cs[c]!.kd = kd at hS4 ⊢
  go_cut [8] from 39 to 47 (fun x wx => ∃ q, x = .pointer (some ⟨q, 0, none⟩) ∧ w4.heap.size ≤ q ∧ Hid (wx.heap[q]? = some (.cells #[.string nm, .int .i64 kd] 61 (0, 0))) ∧ Hid (Below w4.heap.size w4 wx))
  case first =>
    go_region_held3 (A3 ⟨w.heap.size, 0, none⟩ ⟨bc, oc + c * 2, none⟩ ⟨bc, oc + c * 2 + 1, none⟩ (.slice (some ⟨bc, oc, none⟩) L cc) (.string nm) (.int .i64 kd)) (((repeat (first | (with_reducible refine a3D ?_) | (with_reducible refine a3A ?_) | (with_reducible refine a3S hg0 hg2 hg2 ?_))); (with_reducible assumption))) (fail)
    all_goals
      go_wp2_with fail
      go_meet
      case rel => exact ⟨_, rfl, Nat.le_refl _, alloc_block w4 _, ((Below.refl _ _).alloc (Nat.le_refl _) _).drew⟩
  case rest =>
  obtain ⟨q, rfl, hq, HKq, HB5⟩ := hcut
  rename World => w5
  have HN5 := hid (block_on HN4.out HB5.out)
  have HW5 := hid (block_on HW4.out HB5.out)
  have HT5 := hid (HT4.out.on HB5.out)
  have HB05 := hid (HB04.out.trans (HB5.out.mono HB04.out.size))
  have HIb := HI0.out
  have HIc := HI1.out
  unfold InI at HIb HIc
  have hqn : q ≠ w.heap.size := by have := lt_of_block HW4.out; omega
  clear hS4 hg0 hg2 HN4 HW4 HT4 HB04 HB5 hq hrem hL0m hL0n hL0 hA0 hA1 hkyI cI HI0 HI1
  have z0 := block_cell HN5.out 0
  have z1 := block_cell HN5.out 1
  have z2 := block_cell HW5.out 1
  have hm1 := tmod_in (n := n0) (w := 30) (by omega)
  go_upto_if 52 with fail
  generalize n0.tmod 30 = B at *
  go_cut [9] from 48 to 54 (fun x wx => ∃ m : Nat, x = .int .i64 m ∧ m ≤ 29 ∧ wx = w5)
  case first =>
    by_cases hs : B < 0
    · go_wp2_with fail
      go_meet
      case rel => exact ⟨(-B).toNat, by go_num, by omega, rfl⟩
    · go_wp2_with fail
      go_meet
      case rel => exact ⟨B.toNat, by go_num, by omega, rfl⟩
  case rest =>
  obtain ⟨m, rfl, hm29, hwc⟩ := hcut
  replace hwc := hwc.symm
  subst hwc
  clear hm1
  have mI : (m : Int) ≤ 29 := by omega
  have e3 := (tab_nr HT5.out).2
  have nI : (n : Int) ≤ 100 := by have := HLR.out; omega
  have hn1 : (n : Int) + 1 ≠ 0 := by omega
  have hm1 := tmod_in (n := n1) (w := (n : Int) + 1) (by omega)
  clear e3
  go_upto_if 65 with fail
  generalize n1.tmod ((n : Int) + 1) = B at *
  go_cut [10] from 57 to 67 (fun x wx => ∃ k : Nat, x = .int .i64 k ∧ k ≤ n ∧ wx = w5)
  case first =>
    by_cases hs : B < 0
    · go_wp2_with fail
      go_meet
      case rel => exact ⟨(-B).toNat, by go_num, by omega, rfl⟩
    · go_wp2_with fail
      go_meet
      case rel => exact ⟨B.toNat, by go_num, by omega, rfl⟩
  case rest =>
  obtain ⟨k, rfl, hkn, hwc⟩ := hcut
  replace hwc := hwc.symm
  subst hwc
  clear hm1 z0 z1 z2 HN5 HIb HIc HFc hcl
  have hpc : c < cs.length := by rw [HLc.out]; exact hc1
  have hrl5 : rs3.length ≤ 1000000 := by have := HLR.out; omega
  have e3 := (tab_nr HT5.out).2
  have hck5 := HCK.out
  have HTk := hid (chk_sub (qs := rs3.take k) hck5 (fun r h => List.mem_of_mem_take h))
  have HTr := hid (chk_sub (qs := rs3.drop k) hck5 (fun r h => List.mem_of_mem_drop h))
  by_cases hk4 : kd = 4
  case pos =>
    have hth := hid (top_hist (n := (m : Int) + 1) HT5.out hrl5 hck5 hpc (hkd.trans hk4))
    rw [hnm] at hth
    have zc0 := block_cell HKq.out 0
    have zc1 := block_cell HKq.out 1
    have zt0 := block_cell HW5.out 0
    have zt1 := block_cell HW5.out 1
    clear e3
    go_upto_region 16 with (first
      | (go_at_call 30; refine hth.out.mono ?_; rintro e wA ⟨vA, rfl, hfA, hb⟩; obtain ⟨pcA, ncA, ccA, prA, nrA, crA, rfl⟩ := hfA; have HBA := hid hb; clear hb zc0 zc1 zt0 zt1))
    have hba := TN.below_on HBA.out ((Below.refl wA.heap.size wA).alloc (Nat.le_refl _) (.cells #[.slice pcA ncA ccA, .slice prA nrA crA] 28))
    have zk := block_cell (block_on HKq.out hba) 1
    have d1 : (kd == 4) = true := by simp [hk4]
    have HBz := hid (HB05.out.trans (hba.mono HB05.out.size))
    clear hba
    generalize wA.alloc (.cells #[.slice pcA ncA ccA, .slice prA nrA crA] 28) = wB at *
    go_wp2_with fail
    go_ret
    exact ⟨rfl, HBz.out⟩
  have d1 : (kd == 4) = false := by simp [hk4]
  have HTop : Hid (∀ (M : Nat) (W : World) (tv : Value) (rs : List TN.Rw), TN.TabAt W tv cs rs → rs.length ≤ 1000000 → TN.checkV cs rs = 0 → 1 ≤ M → M ≤ 1000 → Calls Try.prog 30 #[tv, .int .i64 (M : Int), .string nm] W fun e w' => ∃ v', e = .returned (.tuple #[v', .int .i64 0]) ∧ FormT v' ∧ TN.TabIn (fun k => W.heap.size ≤ k) w' v' cs (topR c M rs) ∧ Below W.heap.size W w') := hid (fun M W tv rs h1 h2 h3 h4 h5 => by
    have := top_ok (n := (M : Int)) h1 h2 h3 hpc (by rw [hkd]; exact hk4) (by omega) (by omega)
    rw [hnm] at this
    exact this)
  have HTm : Hid (∀ (W : World) (tv : Value) (rs : List TN.Rw), TN.TabAt W tv cs rs → rs.length ≤ 1000000 → TN.checkV cs rs = 0 → Calls Try.prog 30 #[tv, .int .i64 ((m : Int) + 1), .string nm] W fun e w' => ∃ v', e = .returned (.tuple #[v', .int .i64 0]) ∧ FormT v' ∧ TN.TabIn (fun k => W.heap.size ≤ k) w' v' cs (topR c (m + 1) rs) ∧ Below W.heap.size W w') := hid (fun W tv rs h1 h2 h3 => HTop.out (m + 1) W tv rs h1 h2 h3 (by omega) (by omega))
  have HRL := hid hrl5
  have HCK5 := hid hck5
  have kI : (0 : Int) ≤ k := by omega
  have knI : (k : Int) ≤ n := by omega
  have HE3 := hid e3
  have hcap : n ≤ cr := by
    obtain ⟨a, b, e, -, hs, ⟨p', c', e', hc', -⟩, hh⟩ := HT5.out
    cases e; cases e'; exact hc'.1
  have kcI : (k : Int) ≤ cr := by omega
  clear hnm hkd hk4 hck5 hrl5 e3 hpc
  go_upto_region 15 with fail
  go_cut [11, 12] from 68 to 75 (fun x y wx => y = .int .i64 0 ∧ ∃ qq, x = .pointer (some ⟨qq, 0, none⟩) ∧ Hid (Tx wx qq cs (topR c (m + 1) rs3)) ∧ Hid (Below w5.heap.size w5 wx))
  case first =>
    have zc0 := block_cell HKq.out 0
    have zt0 := block_cell HW5.out 0
    have zt1 := block_cell HW5.out 1
    go_wp2_with (first
      | (go_at_call 30; refine (HTm.out _ _ _ HT5.out HRL.out HCK5.out).mono ?_; rintro e wA ⟨vA, rfl, hfA, htA, hb⟩; obtain ⟨pcA, ncA, ccA, prA, nrA, crA, rfl⟩ := hfA; have HTA := hid htA; have HBA := hid hb; clear hb htA zc0 zt0 zt1))
    go_meet
    case rel => exact ⟨rfl, _, rfl, Tx.new HTA.out.at, TN.below_on HBA.out ((Below.refl _ _).alloc (Nat.le_refl _) _)⟩
  case rest =>
  obtain ⟨rfl, qXa, rfl, Xa, HBa⟩ := hcut
  rename World => w6
  replace HW5 := hid (block_on HW5.out HBa.out)
  replace HKq := hid (block_on HKq.out HBa.out)
  replace HT5 := hid (HT5.out.on HBa.out)
  replace HB05 := hid (HB05.out.trans (HBa.out.mono HB05.out.size))
  clear HBa
  have zk := block_cell HKq.out 1
  go_upto_region 18 with fail
  clear zk
  go_cut [13, 14] from 84 to 97 (fun x y wx => y = .int .i64 0 ∧ ∃ qq, x = .pointer (some ⟨qq, 0, none⟩) ∧ Hid (Tx wx qq cs (topR c (m + 1) (rs3.take k))) ∧ Hid (Below w6.heap.size w6 wx))
  case first =>
    have hS4 : A3 ⟨w.heap.size, 0, none⟩ ⟨w.heap.size, 1, none⟩ ⟨q, 0, none⟩ (.slice (some ⟨bc, oc, none⟩) L cc) (.slice pr n cr) (.string nm) w6 := ⟨block_cell HW5.out 0, block_cell HW5.out 1, block_cell HKq.out 0⟩
    have HSB : Hid (∀ W, Below w6.heap.size w6 W → A3 ⟨w.heap.size, 0, none⟩ ⟨w.heap.size, 1, none⟩ ⟨q, 0, none⟩ (.slice (some ⟨bc, oc, none⟩) L cc) (.slice pr n cr) (.string nm) W) := fun W hb => a3B hS4 hb
    have hg0 : w6.heap.size ≠ w.heap.size := by have := lt_of_block HW5.out; omega
    have hg2 : w6.heap.size ≠ q := by have := lt_of_block HKq.out; omega
    have HD : Hid (Below w6.heap.size w6 w6.drew) := (Below.refl _ _).drew
    have HDa : Hid (Below w6.heap.size w6 (w6.alloc (.cells #[.slice none 0 0, .slice none 0 0] 28)).drew) := ((Below.refl _ _).alloc (Nat.le_refl _) _).drew
    have KD : Hid ((w6.alloc (.cells #[.slice none 0 0, .slice none 0 0] 28)).drew.heap[w6.heap.size]? = some (.cells #[.slice none 0 0, .slice none 0 0] 28 (0, 0))) := hid (alloc_block w6 _)
    have HSZ : Hid ((w6.alloc (.cells #[.slice none 0 0, .slice none 0 0] 28)).drew.heap.size = w6.heap.size + 1) := hid (World.size_alloc _ _)
    have HTD := hid (fun W (hb : Below w6.heap.size w6 W) => HTm.out W _ _ (tab_take (HT5.out.on hb) hkn) (by have := HLR.out; rw [List.length_take]; omega) HTk.out)
    go_region_held3 (A3 ⟨w.heap.size, 0, none⟩ ⟨w.heap.size, 1, none⟩ ⟨q, 0, none⟩ (.slice (some ⟨bc, oc, none⟩) L cc) (.slice pr n cr) (.string nm)) (((repeat (first | (with_reducible refine a3D ?_) | (with_reducible refine a3A ?_) | (with_reducible refine a3S hg0 hg0 hg2 ?_))); (with_reducible assumption)))
      (first
      | (go_at_call 30; (refine (HTD.out _ HD.out).mono ?_; rintro e wA ⟨vA, rfl, hfA, htA, hb⟩; obtain ⟨pcA, ncA, ccA, prA, nrA, crA, rfl⟩ := hfA; have HTA := hid htA; have HBA := hid (TN.below_on HD.out hb); have hSA := HSB.out _ HBA.out; clear hb htA))
      | (go_at_call 30; (refine (HTD.out _ HDa.out).mono ?_; rintro e wA ⟨vA, rfl, hfA, htA, hb⟩; obtain ⟨pcA, ncA, ccA, prA, nrA, crA, rfl⟩ := hfA; have HTA := hid htA; have HBA := hid (TN.below_on HDa.out hb); have KA := hid (block_on KD.out hb); have k0 := block_cell KA.out; have f0 := block_frozen KA.out; have hSA := HSB.out _ HBA.out; clear hb htA)))
    all_goals
      go_wp2_with fail
      go_meet
      case rel =>
        first
        | exact ⟨rfl, _, rfl, Tx.new HTA.out.at, TN.below_on HBA.out ((Below.refl _ _).alloc (Nat.le_refl _) _)⟩
        | exact ⟨rfl, _, rfl, Tx.stored KA.out (by have := HSZ.out; omega) HTA.out, TN.below_set (TN.below_set HBA.out (Nat.le_refl _)) (Nat.le_refl _)⟩
  case rest =>
  obtain ⟨rfl, qXp, rfl, Xp, HBa⟩ := hcut
  rename World => w7
  replace HW5 := hid (block_on HW5.out HBa.out)
  replace HKq := hid (block_on HKq.out HBa.out)
  replace HT5 := hid (HT5.out.on HBa.out)
  replace HB05 := hid (HB05.out.trans (HBa.out.mono HB05.out.size))
  replace Xa := hid (Xa.out.on HBa.out)
  clear HBa
  go_upto_region 19 with fail
  go_cut [15, 16] from 98 to 111 (fun x y wx => y = .int .i64 0 ∧ ∃ qq, x = .pointer (some ⟨qq, 0, none⟩) ∧ Hid (Tx wx qq cs (topR c (m + 1) (rs3.drop k))) ∧ Hid (Below w7.heap.size w7 wx))
  case first =>
    have hS4 : A3 ⟨w.heap.size, 0, none⟩ ⟨w.heap.size, 1, none⟩ ⟨q, 0, none⟩ (.slice (some ⟨bc, oc, none⟩) L cc) (.slice pr n cr) (.string nm) w7 := ⟨block_cell HW5.out 0, block_cell HW5.out 1, block_cell HKq.out 0⟩
    have HSB : Hid (∀ W, Below w7.heap.size w7 W → A3 ⟨w.heap.size, 0, none⟩ ⟨w.heap.size, 1, none⟩ ⟨q, 0, none⟩ (.slice (some ⟨bc, oc, none⟩) L cc) (.slice pr n cr) (.string nm) W) := fun W hb => a3B hS4 hb
    have hg0 : w7.heap.size ≠ w.heap.size := by have := lt_of_block HW5.out; omega
    have hg2 : w7.heap.size ≠ q := by have := lt_of_block HKq.out; omega
    have HD : Hid (Below w7.heap.size w7 w7.drew) := (Below.refl _ _).drew
    have HDa : Hid (Below w7.heap.size w7 (w7.alloc (.cells #[.slice none 0 0, .slice none 0 0] 28)).drew) := ((Below.refl _ _).alloc (Nat.le_refl _) _).drew
    have KD : Hid ((w7.alloc (.cells #[.slice none 0 0, .slice none 0 0] 28)).drew.heap[w7.heap.size]? = some (.cells #[.slice none 0 0, .slice none 0 0] 28 (0, 0))) := hid (alloc_block w7 _)
    have HSZ : Hid ((w7.alloc (.cells #[.slice none 0 0, .slice none 0 0] 28)).drew.heap.size = w7.heap.size + 1) := hid (World.size_alloc _ _)
    by_cases hcrk : cr = k
    · subst hcrk
      have HTD := hid (fun W (hb : Below w7.heap.size w7 W) => HTm.out W _ _ (by have h := tab_drop (HT5.out.on hb) hkn; rw [if_pos rfl, Nat.sub_self, show n - cr = 0 by omega] at h; exact h) (by have := HLR.out; rw [List.length_drop]; omega) HTr.out)
      go_region_held3 (A3 ⟨w.heap.size, 0, none⟩ ⟨w.heap.size, 1, none⟩ ⟨q, 0, none⟩ (.slice (some ⟨bc, oc, none⟩) L cc) (.slice pr n cr) (.string nm)) (((repeat (first | (with_reducible refine a3D ?_) | (with_reducible refine a3A ?_) | (with_reducible refine a3S hg0 hg0 hg2 ?_))); (with_reducible assumption)))
        (first
        | (go_at_call 30; (refine (HTD.out _ HD.out).mono ?_; rintro e wA ⟨vA, rfl, hfA, htA, hb⟩; obtain ⟨pcA, ncA, ccA, prA, nrA, crA, rfl⟩ := hfA; have HTA := hid htA; have HBA := hid (TN.below_on HD.out hb); have hSA := HSB.out _ HBA.out; clear hb htA))
        | (go_at_call 30; (refine (HTD.out _ HDa.out).mono ?_; rintro e wA ⟨vA, rfl, hfA, htA, hb⟩; obtain ⟨pcA, ncA, ccA, prA, nrA, crA, rfl⟩ := hfA; have HTA := hid htA; have HBA := hid (TN.below_on HDa.out hb); have KA := hid (block_on KD.out hb); have k0 := block_cell KA.out; have f0 := block_frozen KA.out; have hSA := HSB.out _ HBA.out; clear hb htA)))
      all_goals
        go_wp2_with fail
        go_meet
        case rel =>
          first
          | exact ⟨rfl, _, rfl, Tx.new HTA.out.at, TN.below_on HBA.out ((Below.refl _ _).alloc (Nat.le_refl _) _)⟩
          | exact ⟨rfl, _, rfl, Tx.stored KA.out (by have := HSZ.out; omega) HTA.out, TN.below_set (TN.below_set HBA.out (Nat.le_refl _)) (Nat.le_refl _)⟩
    · have HTD := hid (fun W (hb : Below w7.heap.size w7 W) => HTm.out W _ _ (by have h := tab_drop (HT5.out.on hb) hkn; rw [if_neg hcrk] at h; exact h) (by have := HLR.out; rw [List.length_drop]; omega) HTr.out)
      go_region_held3 (A3 ⟨w.heap.size, 0, none⟩ ⟨w.heap.size, 1, none⟩ ⟨q, 0, none⟩ (.slice (some ⟨bc, oc, none⟩) L cc) (.slice pr n cr) (.string nm)) (((repeat (first | (with_reducible refine a3D ?_) | (with_reducible refine a3A ?_) | (with_reducible refine a3S hg0 hg0 hg2 ?_))); (with_reducible assumption)))
        (first
        | (go_at_call 30; (refine (HTD.out _ HD.out).mono ?_; rintro e wA ⟨vA, rfl, hfA, htA, hb⟩; obtain ⟨pcA, ncA, ccA, prA, nrA, crA, rfl⟩ := hfA; have HTA := hid htA; have HBA := hid (TN.below_on HD.out hb); have hSA := HSB.out _ HBA.out; clear hb htA))
        | (go_at_call 30; (refine (HTD.out _ HDa.out).mono ?_; rintro e wA ⟨vA, rfl, hfA, htA, hb⟩; obtain ⟨pcA, ncA, ccA, prA, nrA, crA, rfl⟩ := hfA; have HTA := hid htA; have HBA := hid (TN.below_on HDa.out hb); have KA := hid (block_on KD.out hb); have k0 := block_cell KA.out; have f0 := block_frozen KA.out; have hSA := HSB.out _ HBA.out; clear hb htA)))
      all_goals
        go_wp2_with fail
        go_meet
        case rel =>
          first
          | exact ⟨rfl, _, rfl, Tx.new HTA.out.at, TN.below_on HBA.out ((Below.refl _ _).alloc (Nat.le_refl _) _)⟩
          | exact ⟨rfl, _, rfl, Tx.stored KA.out (by have := HSZ.out; omega) HTA.out, TN.below_set (TN.below_set HBA.out (Nat.le_refl _)) (Nat.le_refl _)⟩
  case rest =>
  obtain ⟨rfl, qXq, rfl, Xq, HBa⟩ := hcut
  rename World => w8
  replace HW5 := hid (block_on HW5.out HBa.out)
  replace HKq := hid (block_on HKq.out HBa.out)
  replace HT5 := hid (HT5.out.on HBa.out)
  replace HB05 := hid (HB05.out.trans (HBa.out.mono HB05.out.size))
  replace Xa := hid (Xa.out.on HBa.out)
  replace Xp := hid (Xp.out.on HBa.out)
  clear HBa
  clear HRL kI knI kcI hcap
  go_upto_region 20 with fail
  have HL1 : Hid ((topR c (m + 1) (rs3.take k)).length ≤ 100) := hid (by rw [top_len, List.length_take]; have := HLR.out; omega)
  have HL2 : Hid ((topR c (m + 1) (rs3.drop k)).length ≤ 100) := hid (by rw [top_len, List.length_drop]; have := HLR.out; omega)
  have HC1 : Hid (TN.checkV cs (topR c (m + 1) (rs3.take k)) = 0) := hid (chk_sub HTk.out (fun r h => topR_mem h))
  have HC2 : Hid (TN.checkV cs (topR c (m + 1) (rs3.drop k)) = 0) := hid (chk_sub HTr.out (fun r h => topR_mem h))
  have HC0 : Hid (TN.checkV cs (topR c (m + 1) rs3) = 0) := hid (chk_sub HCK5.out (fun r h => topR_mem h))
  have HL0 : Hid ((topR c (m + 1) rs3).length = min (m + 1) n) := hid (by rw [top_len, HE3.out])
  have HL3 : Hid ((topR c (m + 1) rs3).length ≤ 1000000) := hid (by rw [top_len]; omega)
  have HPM : Hid (topR c (m + 1) (TN.sortR (topR c (m + 1) (rs3.take k) ++ topR c (m + 1) (rs3.drop k))) = topR c (m + 1) rs3) := hid (by rw [top_parts, List.take_append_drop])
  have HP1 : Hid (topR c 1 (topR c (m + 1) rs3) = topR c 1 rs3) := hid (top_top (by omega) _)
  have HC3 : Hid (TN.checkV cs (TN.sortR (topR c (m + 1) (rs3.take k) ++ topR c (m + 1) (rs3.drop k))) = 0) := hid (chk_sub HCK5.out (fun r h => by have := (TN.sortR_perm _).mem_iff.1 h; rcases List.mem_append.1 this with h | h; exact List.mem_of_mem_take (topR_mem h); exact List.mem_of_mem_drop (topR_mem h)))
  have HL4 : Hid ((TN.sortR (topR c (m + 1) (rs3.take k) ++ topR c (m + 1) (rs3.drop k))).length ≤ 1000000) := hid (by rw [TN.sortR_length, List.length_append]; have := HL1.out; have := HL2.out; omega)
  generalize topR c (m + 1) (rs3.take k) = R1 at *
  generalize topR c (m + 1) (rs3.drop k) = R2 at *
  generalize hR3 : TN.sortR (R1 ++ R2) = R3 at *
  have HR3 := hid hR3
  clear hR3
  generalize topR c (m + 1) rs3 = R0 at *
  clear HTk HTr
  go_cut [17, 18] from 112 to 117 (fun x y wx => y = .int .i64 0 ∧ ∃ qq, x = .pointer (some ⟨qq, 0, none⟩) ∧ Hid (Tx wx qq cs R3) ∧ Hid (Below w8.heap.size w8 wx))
  case first =>
    have zc0 := block_cell HKq.out 0
    have zt0 := block_cell HW5.out 0
    have zt1 := block_cell HW5.out 1
    obtain ⟨pXp, nXp, cXp, rXp, mXp, dXp, KXp, TXp⟩ := Xp.out
    have z0Xp := block_cell KXp 0
    have z1Xp := block_cell KXp 1
    have HXp := hid TXp
    clear KXp TXp
    obtain ⟨pXq, nXq, cXq, rXq, mXq, dXq, KXq, TXq⟩ := Xq.out
    have z0Xq := block_cell KXq 0
    have z1Xq := block_cell KXq 1
    have HXq := hid TXq
    clear KXq TXq
    go_wp2_with (first
      | (go_at_call 33; refine (TN.runion_ok HXp.out HXq.out (by have := HL1.out; have := HL2.out; omega) HC1 HC2 (decide_eq_true rfl)).mono ?_; rintro e wA ⟨vA, rfl, htA, hb⟩; obtain ⟨pcA, ncA, ccA, prA, nrA, crA, rfl⟩ := tab_form htA; rw [HR3.out] at htA; have HTA := hid htA; have HBA := hid hb; clear hb htA zc0 zt0 zt1 z0Xp z1Xp z0Xq z1Xq))
    go_meet
    case rel => exact ⟨rfl, _, rfl, Tx.new HTA.out, TN.below_on HBA.out ((Below.refl _ _).alloc (Nat.le_refl _) _)⟩
  case rest =>
  obtain ⟨rfl, qXu, rfl, Xu, HBa⟩ := hcut
  rename World => w9
  replace HW5 := hid (block_on HW5.out HBa.out)
  replace HKq := hid (block_on HKq.out HBa.out)
  replace HT5 := hid (HT5.out.on HBa.out)
  replace HB05 := hid (HB05.out.trans (HBa.out.mono HB05.out.size))
  replace Xa := hid (Xa.out.on HBa.out)
  replace Xp := hid (Xp.out.on HBa.out)
  replace Xq := hid (Xq.out.on HBa.out)
  clear HBa
  go_upto_region 21 with fail
  clear HC1 HC2 HL1 HL2 Xp Xq
  go_cut [19, 20] from 118 to 125 (fun x y wx => y = .int .i64 0 ∧ ∃ qq, x = .pointer (some ⟨qq, 0, none⟩) ∧ Hid (Tx wx qq cs (topR c (m + 1) R3)) ∧ Hid (Below w9.heap.size w9 wx))
  case first =>
    have zc0 := block_cell HKq.out 0
    have zt0 := block_cell HW5.out 0
    have zt1 := block_cell HW5.out 1
    obtain ⟨pXu, nXu, cXu, rXu, mXu, dXu, KXu, TXu⟩ := Xu.out
    have z0Xu := block_cell KXu 0
    have z1Xu := block_cell KXu 1
    have HXu := hid TXu
    clear KXu TXu
    go_wp2_with (first
      | (go_at_call 30; refine (HTm.out _ _ _ HXu.out HL4.out HC3.out).mono ?_; rintro e wA ⟨vA, rfl, hfA, htA, hb⟩; obtain ⟨pcA, ncA, ccA, prA, nrA, crA, rfl⟩ := hfA; have HTA := hid htA; have HBA := hid hb; clear hb htA zc0 zt0 zt1 z0Xu z1Xu))
    go_meet
    case rel => exact ⟨rfl, _, rfl, Tx.new HTA.out.at, TN.below_on HBA.out ((Below.refl _ _).alloc (Nat.le_refl _) _)⟩
  case rest =>
  obtain ⟨rfl, qXb, rfl, Xb, HBa⟩ := hcut
  rename World => w10
  replace HW5 := hid (block_on HW5.out HBa.out)
  replace HKq := hid (block_on HKq.out HBa.out)
  replace HT5 := hid (HT5.out.on HBa.out)
  replace HB05 := hid (HB05.out.trans (HBa.out.mono HB05.out.size))
  replace Xa := hid (Xa.out.on HBa.out)
  replace Xu := hid (Xu.out.on HBa.out)
  clear HBa
  rw [HPM.out] at Xb
  go_upto_region 22 with fail
  clear Xu
  have HT1 : Hid (∀ (W : World) (tv : Value) (rs : List TN.Rw), TN.TabAt W tv cs rs → rs.length ≤ 1000000 → TN.checkV cs rs = 0 → Calls Try.prog 30 #[tv, .int .i64 1, .string nm] W fun e w' => ∃ v', e = .returned (.tuple #[v', .int .i64 0]) ∧ FormT v' ∧ TN.TabIn (fun k => W.heap.size ≤ k) w' v' cs (topR c 1 rs) ∧ Below W.heap.size W w') := hid (fun W tv rs h1 h2 h3 => HTop.out 1 W tv rs h1 h2 h3 (by omega) (by omega))
  go_cut [21, 22] from 126 to 132 (fun x y wx => y = .int .i64 0 ∧ ∃ qq, x = .pointer (some ⟨qq, 0, none⟩) ∧ Hid (Tx wx qq cs (topR c 1 R0)) ∧ Hid (Below w10.heap.size w10 wx))
  case first =>
    have zc0 := block_cell HKq.out 0
    have zt0 := block_cell HW5.out 0
    have zt1 := block_cell HW5.out 1
    obtain ⟨pXa, nXa, cXa, rXa, mXa, dXa, KXa, TXa⟩ := Xa.out
    have z0Xa := block_cell KXa 0
    have z1Xa := block_cell KXa 1
    have HXa := hid TXa
    clear KXa TXa
    go_wp2_with (first
      | (go_at_call 30; refine (HT1.out _ _ _ HXa.out HL3.out HC0.out).mono ?_; rintro e wA ⟨vA, rfl, hfA, htA, hb⟩; obtain ⟨pcA, ncA, ccA, prA, nrA, crA, rfl⟩ := hfA; have HTA := hid htA; have HBA := hid hb; clear hb htA zc0 zt0 zt1 z0Xa z1Xa))
    go_meet
    case rel => exact ⟨rfl, _, rfl, Tx.new HTA.out.at, TN.below_on HBA.out ((Below.refl _ _).alloc (Nat.le_refl _) _)⟩
  case rest =>
  obtain ⟨rfl, qXd, rfl, Xd, HBa⟩ := hcut
  rename World => w11
  replace HW5 := hid (block_on HW5.out HBa.out)
  replace HKq := hid (block_on HKq.out HBa.out)
  replace HT5 := hid (HT5.out.on HBa.out)
  replace HB05 := hid (HB05.out.trans (HBa.out.mono HB05.out.size))
  replace Xa := hid (Xa.out.on HBa.out)
  replace Xb := hid (Xb.out.on HBa.out)
  clear HBa
  go_upto_region 23 with fail
  go_cut [23, 24] from 133 to 139 (fun x y wx => y = .int .i64 0 ∧ ∃ qq, x = .pointer (some ⟨qq, 0, none⟩) ∧ Hid (Tx wx qq cs (topR c 1 rs3)) ∧ Hid (Below w11.heap.size w11 wx))
  case first =>
    have zc0 := block_cell HKq.out 0
    have zt0 := block_cell HW5.out 0
    have zt1 := block_cell HW5.out 1
    go_wp2_with (first
      | (go_at_call 30; refine (HT1.out _ _ _ HT5.out (by have := HLR.out; omega) HCK5.out).mono ?_; rintro e wA ⟨vA, rfl, hfA, htA, hb⟩; obtain ⟨pcA, ncA, ccA, prA, nrA, crA, rfl⟩ := hfA; have HTA := hid htA; have HBA := hid hb; clear hb htA zc0 zt0 zt1))
    go_meet
    case rel => exact ⟨rfl, _, rfl, Tx.new HTA.out.at, TN.below_on HBA.out ((Below.refl _ _).alloc (Nat.le_refl _) _)⟩
  case rest =>
  obtain ⟨rfl, qXf, rfl, Xf, HBa⟩ := hcut
  rename World => w12
  replace HW5 := hid (block_on HW5.out HBa.out)
  replace HKq := hid (block_on HKq.out HBa.out)
  replace HT5 := hid (HT5.out.on HBa.out)
  replace HB05 := hid (HB05.out.trans (HBa.out.mono HB05.out.size))
  replace Xa := hid (Xa.out.on HBa.out)
  replace Xb := hid (Xb.out.on HBa.out)
  replace Xd := hid (Xd.out.on HBa.out)
  clear HBa
  rw [HP1.out] at Xd
  go_upto_region 24 with fail
  go_cut [25] from 140 to 142 (fun x wx => x = .bool true ∧ Hid (Below w12.heap.size w12 wx))
  case first =>
    have zc0 := block_cell HKq.out 0
    have zt0 := block_cell HW5.out 0
    have zt1 := block_cell HW5.out 1
    obtain ⟨pXa, nXa, cXa, rXa, mXa, dXa, KXa, TXa⟩ := Xa.out
    have z0Xa := block_cell KXa 0
    have z1Xa := block_cell KXa 1
    have HXa := hid TXa
    clear KXa TXa
    obtain ⟨pXb, nXb, cXb, rXb, mXb, dXb, KXb, TXb⟩ := Xb.out
    have z0Xb := block_cell KXb 0
    have z1Xb := block_cell KXb 1
    have HXb := hid TXb
    clear KXb TXb
    go_wp2_with (first
      | (go_at_call 23; refine (TN.rsame_any HXa.out HXb.out).mono ?_; rintro e wA ⟨rfl, hb⟩; rw [decide_eq_true ⟨rfl, rfl⟩]; have HBA := hid hb; clear hb zc0 zt0 zt1 z0Xa z1Xa z0Xb z1Xb))
    go_meet
    case rel => exact ⟨rfl, HBA.out⟩
  case rest =>
  obtain ⟨rfl, HBa⟩ := hcut
  rename World => w13
  replace HW5 := hid (block_on HW5.out HBa.out)
  replace HKq := hid (block_on HKq.out HBa.out)
  replace HT5 := hid (HT5.out.on HBa.out)
  replace HB05 := hid (HB05.out.trans (HBa.out.mono HB05.out.size))
  replace Xa := hid (Xa.out.on HBa.out)
  replace Xb := hid (Xb.out.on HBa.out)
  replace Xd := hid (Xd.out.on HBa.out)
  replace Xf := hid (Xf.out.on HBa.out)
  clear HBa
  go_upto_region 25 with fail
  go_cut [26] from 143 to 145 (fun x wx => x = .bool true ∧ Hid (Below w13.heap.size w13 wx))
  case first =>
    have zc0 := block_cell HKq.out 0
    have zt0 := block_cell HW5.out 0
    have zt1 := block_cell HW5.out 1
    obtain ⟨pXd, nXd, cXd, rXd, mXd, dXd, KXd, TXd⟩ := Xd.out
    have z0Xd := block_cell KXd 0
    have z1Xd := block_cell KXd 1
    have HXd := hid TXd
    clear KXd TXd
    obtain ⟨pXf, nXf, cXf, rXf, mXf, dXf, KXf, TXf⟩ := Xf.out
    have z0Xf := block_cell KXf 0
    have z1Xf := block_cell KXf 1
    have HXf := hid TXf
    clear KXf TXf
    go_wp2_with (first
      | (go_at_call 23; refine (TN.rsame_any HXd.out HXf.out).mono ?_; rintro e wA ⟨rfl, hb⟩; rw [decide_eq_true ⟨rfl, rfl⟩]; have HBA := hid hb; clear hb zc0 zt0 zt1 z0Xd z1Xd z0Xf z1Xf))
    go_meet
    case rel => exact ⟨rfl, HBA.out⟩
  case rest =>
  obtain ⟨rfl, HBa⟩ := hcut
  rename World => w14
  replace HW5 := hid (block_on HW5.out HBa.out)
  replace HKq := hid (block_on HKq.out HBa.out)
  replace HT5 := hid (HT5.out.on HBa.out)
  replace HB05 := hid (HB05.out.trans (HBa.out.mono HB05.out.size))
  replace Xa := hid (Xa.out.on HBa.out)
  replace Xb := hid (Xb.out.on HBa.out)
  replace Xd := hid (Xd.out.on HBa.out)
  replace Xf := hid (Xf.out.on HBa.out)
  clear HBa
  go_upto_region 26 with fail
  obtain ⟨pXa, nXa, cXa, rXa, mXa, dXa, KXa, TXa⟩ := Xa.out
  have z1Xa := block_cell KXa 1
  have zt1 := block_cell HW5.out 1
  have e0 : mXa = min (m + 1) n := by rw [(tab_nr TXa).2, HL0.out]
  have e1 : ((mXa : Int) == min ((m : Int) + 1) (n : Int)) = true := by rw [beq_iff_eq]; omega
  clear e0
  clear KXa TXa HL0
  go_wp2_with fail
  go_ret
  exact ⟨rfl, HB05.out⟩
end Go.Proofs.Ytcidijjbcebcbaa.RO
