/-
  PredMorgan, walked.
-/
import Derived.Test.YtjekpclbedbaoaaKS34
namespace Go.Proofs.Ytjekpclbedbaoaa.PD
open Go.RowKit Go.Joins Go.Sort Go.Proofs.Ytjekpclbedbaoaa.BS

set_option maxRecDepth 100000 in
set_option maxHeartbeats 16000000 in
theorem predMorgan_any {s u : List UInt8} {tv : Value} {cs : List TN.Cl} {rs : List TN.Rw} {w : World} (ht : TN.TabAt w tv cs rs) (hM : Mx w) (hz : ∀ r ∈ rs, Rsz r) (hls : (s.length : Int) ≤ 1048576) (hlu : (u.length : Int) ≤ 1048576) : Calls Try.prog 4 #[.string (St s), .string (St u), tv] w fun e w' => e = .returned (.bool true) ∧ Below w.heap.size w w' := by
  obtain ⟨cv, rv, rfl, hcs, hs, hrs, hhs⟩ := ht
  obtain ⟨W, hW⟩ : ∃ W, W = w.alloc (.cells #[cv, rv] 25) := ⟨_, rfl⟩
  have hb0 : Below w.heap.size w W := by rw [hW]; exact (Below.refl _ _).alloc (Nat.le_refl _) _
  have k0 : W.heap[w.heap.size]? = some (.cells #[cv, rv] 25 (0, 0)) := by rw [hW]; exact alloc_block w _
  have HB0 := hid hb0
  have KT0 := hid k0
  have HC0 := hid ((TN.SlAt.low hcs (by decide) TN.cl_len).imp (fun b hb => hb.2) |>.on hb0)
  have HR0 := hid ((TN.SlAt.low hrs (by decide) TN.one_len).imp (fun b hb => hb.2) |>.on hb0)
  have HH0 := hid (TN.HeadsIn.on (TN.heads_low hhs) hb0)
  have HM0 := hid (hM.on hb0)
  have HW := hid hW
  have HP := hid (mx_pos hM)
  have HZ := hid hz
  obtain ⟨oa, HAs, HOa⟩ : ∃ oa : Bool, Hid (∀ w, Calls Try.prog 18 #[.string (St s)] w fun e w' => e = .returned (.bool oa) ∧ Below w.heap.size w w') ∧ Hid (oa = true → (lexO s).2.2 = 0 ∧ (cnd s).2.2 = 0) := ⟨_, hid (fun w => alone_any (l := s) (by omega) w), hid of_decide_eq_true⟩
  obtain ⟨ob, HAu, HOb⟩ : ∃ ob : Bool, Hid (∀ w, Calls Try.prog 18 #[.string (St u)] w fun e w' => e = .returned (.bool ob) ∧ Below w.heap.size w w') ∧ Hid (ob = true → (lexO u).2.2 = 0 ∧ (cnd u).2.2 = 0) := ⟨_, hid (fun w => alone_any (l := u) (by omega) w), hid of_decide_eq_true⟩
  have hss := St_size s
  have hsu := St_size u
  have Hls := hid hls
  have Hlu := hid hlu
  obtain ⟨pc, cc, rfl, -⟩ := hcs
  obtain ⟨pr0, cr0, rfl, -⟩ := hrs
  clear hb0 k0 hW hhs hM hz hls hlu
  go_enter Try.func4, Try.ntmps4
  go_upto_region 1 with fail
  rw [← HW.out]
  clear HW
  go_upto_region 2 with (first
    | (go_at_call 10; refine (shown5_any W HM0.out).mono ?_; rintro e w3 ⟨rfl, hb⟩; have HB3 := hid (TN.below_on HB0.out hb); have hk1 := block_on KT0.out hb; have HKt := hid hk1; have y0 := block_cell hk1; have HC3 := hid (HC0.out.on hb); have HR3 := hid (HR0.out.on hb); have HH3 := hid (HH0.out.on hb); have HM3 := hid (HM0.out.on hb); clear hb hk1))
  go_upto_region 3 with (first
    | (go_at_call 11; refine (TN.cut5_q HC3.out HR3.out HH3.out).mono ?_; rintro e w4 ⟨r2, rfl, hr2, hh2, hb⟩; have hrz : ∀ r ∈ rs.take 100, Rsz r := (fun r hr => HZ.out r (List.mem_of_mem_take hr)); have hr1 : (rs.take 100).length ≤ 100 := (by rw [List.length_take]; omega); generalize hs.take 100 = hs4 at *; generalize rs.take 100 = rs4 at *; have HRz := hid hrz; have HLR := hid hr1; have HB4 := hid (TN.below_on HB3.out hb); have HKt4 := hid (block_on HKt.out hb); have HM4 := hid (HM3.out.on hb); have HC4 := hid (HC3.out.on hb); have HR4 := hid hr2; have HH4 := hid hh2; obtain ⟨pr, cr, rfl, -⟩ := hr2; have y4 := block_cell HKt4.out; have y5 := block_frozen HKt4.out; clear hb hh2 hr1 hrz y0))
  have KF := block_set (block_set HKt4.out 0 (.slice pc cs.length cc)) 1 (.slice pr hs4.length cr)
  have hkf : Kp (fun b => b = w.heap.size) w4 ((w4.setCell ⟨w.heap.size, 0, none⟩ (.slice pc cs.length cc)).setCell ⟨w.heap.size, 1, none⟩ (.slice pr hs4.length cr)) := (Kp.set (T := fun b => b = w.heap.size) rfl _).trans (Kp.set (T := fun b => b = w.heap.size) rfl _)
  have HKt5 : Hid (((w4.setCell ⟨w.heap.size, 0, none⟩ (.slice pc cs.length cc)).setCell ⟨w.heap.size, 1, none⟩ (.slice pr hs4.length cr)).heap[w.heap.size]? = some (.cells #[.slice pc cs.length cc, .slice pr hs4.length cr] 25 (0, 0))) := hid KF
  have HB5 := hid (HB4.out.trans (hkf.below HB4.out.size (fun b e => by omega)))
  have HM5 := hid (mx_kp HM4.out hkf (by have := HP.out; omega))
  have hT5 : TN.TabIn (fun b => b < w.heap.size) ((w4.setCell ⟨w.heap.size, 0, none⟩ (.slice pc cs.length cc)).setCell ⟨w.heap.size, 1, none⟩ (.slice pr hs4.length cr)) (.agg #[.slice pc cs.length cc, .slice pr hs4.length cr]) cs rs4 := TN.TabIn.set (fun b hb => by omega) (TN.TabIn.set (fun b hb => by omega) ⟨_, _, rfl, HC4.out, hs4, HR4.out, HH4.out⟩)
  have HT5 := hid hT5
  clear KF hkf y4 y5 HC4 HR4 HH4 HM4 hT5
  generalize (w4.setCell ⟨w.heap.size, 0, none⟩ (.slice pc cs.length cc)).setCell ⟨w.heap.size, 1, none⟩ (.slice pr hs4.length cr) = w5 at *
  have HWa := hid (fun W nv qs (hT : TN.TabIn (fun b => b < w.heap.size) W (.agg #[.slice pc cs.length cc, .slice pr hs4.length cr]) cs rs4) (hQ : Qx (fun b => b < W.heap.size) W nv qs) (hl : qs.length ≤ 1000) (hM : Mx W) (i : Int) => show Calls Try.prog 14 #[.agg #[.slice pc cs.length cc, .slice pr hs4.length cr], .agg #[nv], .int .i64 i] W (WhP' cs (rs4.filter (holdsX cs qs i)) W) by
    obtain ⟨c', r', e', hc, hs', hr, hh⟩ := hT
    cases e'
    exact where_any (i := i) hQ hl (hc.imp (fun _ _ => trivial)) (hr.imp (fun _ _ => trivial)) ⟨hh.1, fun j x r h1 h2 => (hh.2 j x r h1 h2).imp (fun _ _ => trivial)⟩ hM (fun _ _ _ r hr => HRz.out r hr) (by have := HLR.out; omega))
  by_cases h1 : 500 < s.length
  · have hI : 500 < (s.length : Int) := by omega
    clear h1
    go_wp2_with fail
    go_ret
    exact ⟨rfl, HB5.out⟩
  by_cases h2 : 500 < u.length
  · have hI : ¬ 500 < (s.length : Int) := by omega
    have hI2 : 500 < (u.length : Int) := by omega
    clear h1 h2
    go_wp2_with fail
    go_ret
    exact ⟨rfl, HB5.out⟩
  have hI : ¬ 500 < (s.length : Int) := by omega
  have hI2 : ¬ 500 < (u.length : Int) := by omega
  have Hl5 := hid (And.intro h1 h2)
  clear h1 h2
  cases oa
  · go_wp2_with (go_at_call 18; refine (HAs.out _).mono ?_; rintro e w6 ⟨rfl, hb⟩; have HB6 := hid hb; clear hb HAs)
    go_ret
    exact ⟨rfl, HB5.out.trans (HB6.out.mono HB5.out.size)⟩
  cases ob
  · go_wp2_with (first
      | (go_at_call 18; refine (HAs.out _).mono ?_; rintro e w6 ⟨rfl, hb⟩; have HB6 := hid hb; clear hb HAs)
      | (go_at_call 18; refine (HAu.out _).mono ?_; rintro e w7 ⟨rfl, hb⟩; have HB7 := hid (TN.below_on HB6.out hb); clear hb))
    go_ret
    exact ⟨rfl, HB5.out.trans (HB7.out.mono HB5.out.size)⟩
  go_upto_region 5 with (first
    | (go_at_call 18; refine (HAs.out _).mono ?_; rintro e w6 ⟨rfl, hb⟩; have HB6 := hid hb; clear hb HAs)
    | (go_at_call 18; refine (HAu.out _).mono ?_; rintro e w7 ⟨rfl, hb⟩; have HB7 := hid (TN.below_on HB6.out hb); clear hb))
  obtain ⟨hs1, hs2⟩ : (lexO s).2.2 = 0 ∧ (cnd s).2.2 = 0 := by first | exact HOa.out rfl | exact HOa.out trivial
  obtain ⟨hu1, hu2⟩ : (lexO u).2.2 = 0 ∧ (cnd u).2.2 = 0 := by first | exact HOb.out rfl | exact HOb.out trivial
  have HSU := hid (And.intro (And.intro hs1 hs2) (And.intro hu1 hu2))
  clear hs1 hs2 hu1 hu2 HAu HOa HOb
  have HBr := hid HB7.out
  generalize w7 = wr at *
  have HTr := hid (HT5.out.on HBr.out)
  have HMr := hid (HM5.out.on HBr.out)
  have KTr := hid (block_on HKt5.out HBr.out)
  obtain ⟨d1, litd1, hd1⟩ : ∃ c, (⟨#[110, 111, 116, 32, 40]⟩ : ByteArray) = St c ∧ c = [110, 111, 116, 32, 40] := ⟨_, rfl, rfl⟩
  have ld1 : d1.length = 5 := by rw [hd1]; rfl
  obtain ⟨d2, litd2, hd2⟩ : ∃ c, (⟨#[41, 32, 111, 114, 32, 110, 111, 116, 32, 40]⟩ : ByteArray) = St c ∧ c = [41, 32, 111, 114, 32, 110, 111, 116, 32, 40] := ⟨_, rfl, rfl⟩
  have ld2 : d2.length = 10 := by rw [hd2]; rfl
  obtain ⟨d3, litd3, hd3⟩ : ∃ c, (⟨#[41]⟩ : ByteArray) = St c ∧ c = [41] := ⟨_, rfl, rfl⟩
  have ld3 : d3.length = 1 := by rw [hd3]; rfl
  obtain ⟨e1, lite1, he1⟩ : ∃ c, (⟨#[110, 111, 116, 32, 110, 111, 116, 32, 110, 111, 116, 32, 40, 40]⟩ : ByteArray) = St c ∧ c = [110, 111, 116, 32, 110, 111, 116, 32, 110, 111, 116, 32, 40, 40] := ⟨_, rfl, rfl⟩
  have le1 : e1.length = 14 := by rw [he1]; rfl
  obtain ⟨e2, lite2, he2⟩ : ∃ c, (⟨#[41, 32, 97, 110, 100, 32, 40]⟩ : ByteArray) = St c ∧ c = [41, 32, 97, 110, 100, 32, 40] := ⟨_, rfl, rfl⟩
  have le2 : e2.length = 7 := by rw [he2]; rfl
  obtain ⟨e3, lite3, he3⟩ : ∃ c, (⟨#[41, 41]⟩ : ByteArray) = St c ∧ c = [41, 41] := ⟨_, rfl, rfl⟩
  have le3 : e3.length = 2 := by rw [he3]; rfl
  have l5 := Hl5.out
  obtain ⟨xa0, qxa0⟩ : ∃ l, l = d1 ++ s := ⟨_, rfl⟩
  have catxa0 : St d1 ++ St s = St xa0 := by rw [St_catB, qxa0]
  have lenxa0 : xa0.length = d1.length + s.length := by rw [qxa0, List.length_append]
  have sizxa0 : ¬ 9223372036854775807 < (St d1).size + (St s).size := by rw [St_size, St_size]; omega
  obtain ⟨xa1, qxa1⟩ : ∃ l, l = xa0 ++ d2 := ⟨_, rfl⟩
  have catxa1 : St xa0 ++ St d2 = St xa1 := by rw [St_catB, qxa1]
  have lenxa1 : xa1.length = xa0.length + d2.length := by rw [qxa1, List.length_append]
  have sizxa1 : ¬ 9223372036854775807 < (St xa0).size + (St d2).size := by rw [St_size, St_size]; omega
  obtain ⟨xa2, qxa2⟩ : ∃ l, l = xa1 ++ u := ⟨_, rfl⟩
  have catxa2 : St xa1 ++ St u = St xa2 := by rw [St_catB, qxa2]
  have lenxa2 : xa2.length = xa1.length + u.length := by rw [qxa2, List.length_append]
  have sizxa2 : ¬ 9223372036854775807 < (St xa1).size + (St u).size := by rw [St_size, St_size]; omega
  obtain ⟨xa3, qxa3⟩ : ∃ l, l = xa2 ++ d3 := ⟨_, rfl⟩
  have catxa3 : St xa2 ++ St d3 = St xa3 := by rw [St_catB, qxa3]
  have lenxa3 : xa3.length = xa2.length + d3.length := by rw [qxa3, List.length_append]
  have sizxa3 : ¬ 9223372036854775807 < (St xa2).size + (St d3).size := by rw [St_size, St_size]; omega
  have finxa : xa3 = morA s u := by rw [qxa3, qxa2, qxa1, qxa0, hd1, hd2, hd3]; simp [morA]
  have flnxa : xa3.length ≤ 4000 := by omega
  obtain ⟨xb0, qxb0⟩ : ∃ l, l = e1 ++ s := ⟨_, rfl⟩
  have catxb0 : St e1 ++ St s = St xb0 := by rw [St_catB, qxb0]
  have lenxb0 : xb0.length = e1.length + s.length := by rw [qxb0, List.length_append]
  have sizxb0 : ¬ 9223372036854775807 < (St e1).size + (St s).size := by rw [St_size, St_size]; omega
  obtain ⟨xb1, qxb1⟩ : ∃ l, l = xb0 ++ e2 := ⟨_, rfl⟩
  have catxb1 : St xb0 ++ St e2 = St xb1 := by rw [St_catB, qxb1]
  have lenxb1 : xb1.length = xb0.length + e2.length := by rw [qxb1, List.length_append]
  have sizxb1 : ¬ 9223372036854775807 < (St xb0).size + (St e2).size := by rw [St_size, St_size]; omega
  obtain ⟨xb2, qxb2⟩ : ∃ l, l = xb1 ++ u := ⟨_, rfl⟩
  have catxb2 : St xb1 ++ St u = St xb2 := by rw [St_catB, qxb2]
  have lenxb2 : xb2.length = xb1.length + u.length := by rw [qxb2, List.length_append]
  have sizxb2 : ¬ 9223372036854775807 < (St xb1).size + (St u).size := by rw [St_size, St_size]; omega
  obtain ⟨xb3, qxb3⟩ : ∃ l, l = xb2 ++ e3 := ⟨_, rfl⟩
  have catxb3 : St xb2 ++ St e3 = St xb3 := by rw [St_catB, qxb3]
  have lenxb3 : xb3.length = xb2.length + e3.length := by rw [qxb3, List.length_append]
  have sizxb3 : ¬ 9223372036854775807 < (St xb2).size + (St e3).size := by rw [St_size, St_size]; omega
  have finxb : xb3 = morB s u := by rw [qxb3, qxb2, qxb1, qxb0, he1, he2, he3]; simp [morB]
  have flnxb : xb3.length ≤ 4000 := by omega
  have HLA := hid (fun w => rlex_any xa3 (by omega) w)
  have HLB := hid (fun w => rlex_any xb3 (by omega) w)
  have HKA : Hid (∀ (w : World) (tv : Value), SlAt (fun b => b < w.heap.size) Tp.cells 4 w tv ((lexO xa3).1.map tp) → Calls Try.prog 13 #[tv] w (WhP w (cnd xa3))) := fun w tv h => RCond_any h
  have HKB : Hid (∀ (w : World) (tv : Value), SlAt (fun b => b < w.heap.size) Tp.cells 4 w tv ((lexO xb3).1.map tp) → Calls Try.prog 13 #[tv] w (WhP w (cnd xb3))) := fun w tv h => RCond_any h
  have HBo : Hid ((lexO xa3).2.2 = 0 → (cnd xa3).2.2 = 0 → (lexO xb3).2.2 = 0 → (cnd xb3).2.2 = 0 → 0 < (cnd xa3).1.length ∧ 0 < (cnd xb3).1.length ∧ (cnd xa3).1.length ≤ 128 ∧ (cnd xb3).1.length ≤ 128 ∧ ∀ cs row, tvX cs row (cnd xa3).1 ((cnd xa3).1.length - 1) = tvX cs row (cnd xb3).1 ((cnd xb3).1.length - 1)) := hid (by
    rw [finxa, finxb]
    exact fun a1 a2 b1 b2 => ⟨cnd_pos a2, cnd_pos b2, cnd_128 a2, cnd_128 b2, fun cs row => mor_same HSU.out.1.1 HSU.out.1.2 HSU.out.2.1 HSU.out.2.2 a1 a2 b1 b2⟩)
  unfold LexP at HLA HLB
  clear finxa finxb flnxa flnxb l5 hd1 ld1 hd2 ld2 hd3 ld3 he1 le1 he2 le2 he3 le3 qxa0 qxa1 qxa2 qxa3 qxb0 qxb1 qxb2 qxb3 lenxa0 lenxa1 lenxa2 lenxa3 lenxb0 lenxb1 lenxb2 lenxb3
  generalize cnd xa3 = RA at *
  generalize lexO xa3 = LA at *
  generalize cnd xb3 = RB at *
  generalize lexO xb3 = LB at *
  obtain ⟨nA, ia, eA⟩ := RA
  obtain ⟨nB, ib, eB⟩ := RB
  obtain ⟨uA, ja, xA⟩ := LA
  obtain ⟨uB, jb, xB⟩ := LB
  simp only at HBo
  have HBr5 := hid (HB5.out.trans (HBr.out.mono HB5.out.size))
  go_upto_region 7 with (first
    | (go_at_call 12; refine (HLA.out _).mono ?_; rintro e wa ⟨tva, rfl, htr, hb⟩; have HBa := hid hb; have HTa := hid htr.sl; clear htr hb)
    | (go_at_call 13; refine (HKA.out _ _ HTa.out).mono ?_; rintro e wb ⟨vs, rfl, hns, hb⟩; obtain ⟨pA, cA, rfl, -, -⟩ := hns.len; have HNA := hid hns; have HBb := hid (HBa.out.trans (hb.mono HBa.out.size)); clear hns hb))
  have hbA : Below wb.heap.size wb (wb.alloc (.cells #[.slice pA nA.length cA] 34)) := (Below.refl _ _).alloc (Nat.le_refl _) _
  have KA := hid (alloc_block wb (.cells #[.slice pA nA.length cA] 34))
  obtain ⟨qa, hQa, hsa, hqla⟩ := nq_qx HNA.out
  have HQa := hid (qx_on hQa (Nat.le_refl _) hbA)
  have HBc := hid (TN.below_on HBb.out hbA)
  have HSa := hid (And.intro hsa hqla)
  clear hbA hQa hsa hqla HBa HTa HBb HNA
  generalize wb.alloc (.cells #[.slice pA nA.length cA] 34) = wc at *
  go_upto_region 9 with (first
    | (go_at_call 12; refine (HLB.out _).mono ?_; rintro e wd ⟨tvb, rfl, htr, hb⟩; have HBd := hid hb; have HTd := hid htr.sl; clear htr hb)
    | (go_at_call 13; refine (HKB.out _ _ HTd.out).mono ?_; rintro e we ⟨vs, rfl, hns, hb⟩; obtain ⟨pB, cB, rfl, -, -⟩ := hns.len; have HNB := hid hns; have HBe := hid (HBd.out.trans (hb.mono HBd.out.size)); clear hns hb))
  have hbB : Below we.heap.size we (we.alloc (.cells #[.slice pB nB.length cB] 34)) := (Below.refl _ _).alloc (Nat.le_refl _) _
  have KB := hid (alloc_block we (.cells #[.slice pB nB.length cB] 34))
  obtain ⟨qb, hQb, hsb, hqlb⟩ := nq_qx HNB.out
  have HQb := hid (qx_on hQb (Nat.le_refl _) hbB)
  have hcf : Below wc.heap.size wc (we.alloc (.cells #[.slice pB nB.length cB] 34)) := TN.below_on HBe.out hbB
  have HQa2 := hid (qx_on HQa.out (Nat.le_refl _) hcf)
  have KA2 := hid (block_on KA.out hcf)
  have HBf := hid (TN.below_on HBc.out hcf)
  have HSb := hid (And.intro hsb hqlb)
  clear hbB hQb hsb hqlb HBd HTd HBe HNB hcf KA HQa
  generalize we.alloc (.cells #[.slice pB nB.length cB] 34) = wf at *
  have HBt := hid (HBr5.out.trans (HBf.out.mono HBr5.out.size))
  have d0 : ((0 : Int) != 0) = false := rfl
  by_cases hx : xA = 0
  case neg =>
    have d1 : (xA != 0) = true := by simp; exact hx
    go_wp2_with fail
    go_ret
    exact ⟨rfl, HBt.out⟩
  subst hx
  by_cases hx : eA = 0
  case neg =>
    have d1 : (eA != 0) = true := by simp; exact hx
    go_wp2_with fail
    go_ret
    exact ⟨rfl, HBt.out⟩
  subst hx
  by_cases hx : xB = 0
  case neg =>
    have d1 : (xB != 0) = true := by simp; exact hx
    go_wp2_with fail
    go_ret
    exact ⟨rfl, HBt.out⟩
  subst hx
  by_cases hx : eB = 0
  case neg =>
    have d1 : (eB != 0) = true := by simp; exact hx
    go_wp2_with fail
    go_ret
    exact ⟨rfl, HBt.out⟩
  subst hx
  obtain ⟨hA0, hB0, hA1, hB1, hsame⟩ := HBo.out rfl rfl rfl rfl
  have HR12 : Hid (rs4.filter (holdsX cs qa ((nA.length : Int) - 1)) = rs4.filter (holdsX cs qb ((nB.length : Int) - 1))) := hid (filter_tv HSa.out.1 HSb.out.1 hA0 hB0 (fun row => hsame cs row))
  have HLa := hid (show qa.length ≤ 1000 by rw [HSa.out.2]; omega)
  have HLb := hid (show qb.length ≤ 1000 by rw [HSb.out.2]; omega)
  have HF1 : Hid ((rs4.filter (holdsX cs qa ((nA.length : Int) - 1))).length ≤ 1000000) := hid (Nat.le_trans (List.length_filter_le _ _) (by have := HLR.out; omega))
  have nAI : (nA.length : Int) ≤ 128 := by omega
  have nBI : (nB.length : Int) ≤ 128 := by omega
  have nA0 : 0 < (nA.length : Int) := by omega
  have nB0 : 0 < (nB.length : Int) := by omega
  have HTf := hid ((HTr.out).on HBf.out)
  have HMf := hid (HMr.out.on HBf.out)
  have KTf := hid (block_on KTr.out HBf.out)
  clear hsame hA0 hB0 hA1 hB1
  have z0 := block_cell KTf.out
  have z1 := block_cell KA2.out 0
  go_upto_region 11 with fail
  go_upto_region 12 with (first
    | (go_at_call 14; refine (HWa.out _ _ _ HTf.out HQa2.out HLa.out HMf.out _).mono ?_; rintro e wg ⟨cvg, rvg, hsg, rfl, hcg, hrg, hb⟩; have HT1 := hid (whp_tab hcg hrg HF1.out); have HBg := hid hb; obtain ⟨pcg, ccg, rfl, -⟩ := id hcg; obtain ⟨prg, crg, hprg, -⟩ := own_head hrg.own; subst hprg; clear hcg hrg hb z0 z1))
  have kg := alloc_block wg (.cells #[.slice pcg cs.length ccg, .slice prg hsg.length crg] 25)
  have hag : Below wg.heap.size wg (wg.alloc (.cells #[.slice pcg cs.length ccg, .slice prg hsg.length crg] 25)) := (Below.refl _ _).alloc (Nat.le_refl _) _
  have HBh := hid (TN.below_on HBg.out hag)
  have Kg := hid kg
  have HT1h := hid (HT1.out.on hag)
  clear kg hag HBg HT1
  generalize wg.alloc (.cells #[.slice pcg cs.length ccg, .slice prg hsg.length crg] 25) = wh at *
  have HTh := hid (HTf.out.on HBh.out)
  have HMh := hid (HMf.out.on HBh.out)
  have HQh := hid (qx_on HQb.out (Nat.le_refl _) HBh.out)
  have z0 := block_cell (block_on KTf.out HBh.out)
  have z1 := block_cell (block_on KB.out HBh.out) 0
  go_upto_region 13 with (first
    | (go_at_call 14; refine (HWa.out _ _ _ HTh.out HQh.out HLb.out HMh.out _).mono ?_; rintro e wi ⟨cvi, rvi, hsi, rfl, hci, hri, hb⟩; rw [← HR12.out] at hri; have HT2 := hid (whp_tab hci hri HF1.out); have HBi := hid hb; obtain ⟨pci, cci, rfl, -⟩ := id hci; obtain ⟨pri, cri, hpri, -⟩ := own_head hri.own; subst hpri; clear hci hri hb z0 z1))
  have ki := alloc_block wi (.cells #[.slice pci cs.length cci, .slice pri hsi.length cri] 25)
  have hai : Below wi.heap.size wi (wi.alloc (.cells #[.slice pci cs.length cci, .slice pri hsi.length cri] 25)) := (Below.refl _ _).alloc (Nat.le_refl _) _
  have HBj := hid (TN.below_on HBi.out hai)
  have Kj := hid ki
  have HT2j := hid (HT2.out.on hai)
  clear ki hai HBi HT2
  generalize wi.alloc (.cells #[.slice pci cs.length cci, .slice pri hsi.length cri] 25) = wj at *
  have HSm := hid (TN.rsame_any ((HT1h.out.on HBj.out).imp (fun _ _ => trivial)) (HT2j.out.imp (fun _ _ => trivial)))
  have HBk := hid (TN.below_on HBf.out (TN.below_on HBh.out HBj.out))
  have z2 := block_cell (block_on Kg.out HBj.out)
  have z3 := block_cell Kj.out
  go_upto_region 14 with (first
    | (go_at_call 15; refine HSm.out.mono ?_; rintro e wk ⟨rfl, hb⟩; rw [decide_eq_true ⟨rfl, rfl⟩]; have HBl := hid (TN.below_on HBk.out hb); clear hb z2 z3))
  go_wp2_with fail
  go_ret
  exact ⟨rfl, HB5.out.trans ((TN.below_on HBr.out HBl.out).mono HB5.out.size)⟩
theorem predMorgan_b {s u : ByteArray} {tv : Value} {cs : List TN.Cl} {rs : List TN.Rw} {w : World} (ht : TN.TabAt w tv cs rs) (hM : Mx w) (hz : ∀ r ∈ rs, Rsz r) (hls : s.size ≤ 1048576) (hlu : u.size ≤ 1048576) : Calls Try.prog 4 #[.string s, .string u, tv] w fun e w' => e = .returned (.bool true) ∧ Below w.heap.size w w' := by
  have h1 : St s.data.toList = s := by cases s; simp [St]
  have h2 : St u.data.toList = u := by cases u; simp [St]
  have h3 : s.data.toList.length = s.size := rfl
  have h4 : u.data.toList.length = u.size := rfl
  have := predMorgan_any (s := s.data.toList) (u := u.data.toList) ht hM hz (by omega) (by omega)
  rwa [h1, h2] at this
end Go.Proofs.Ytjekpclbedbaoaa.PD
