/-
  What Write of package leaf returns where it writes, and what it leaves.
-/
import Derived.Test.YtlbjbkhcnafhcaaGreatQLWrite2
namespace Go.Proofs.YtlbjbkhcnafhcaaGreat
open Go.RowKit Go.Sort Go.Shelf Go.Maps

theorem step_call0 {ops : Array Oper} {o : Oper} {a : Act} {w : World} {K : Act → World → Prop} {Q : Exit → Act → World → Prop} {E : Prop} {f : FuncId} (hgd : o.guard = none)
    (ho : o.op = .call { callee := .value (.func f), args := #[], argTypes := #[] }) (hen : ∀ args w, (callFunc f args).run Tryz.prog w = .ok (.enter f args) w)
    (hc : Calls Tryz.prog f #[] w fun e w' => ∃ u, e = .returned u ∧ K (a.put o.dst u) w') : if Region.wanted o (yielded ops a.tmps) = true then Oper.wp Tryz.prog o a w K Q else E := by
  have hw : Region.wanted o (yielded ops a.tmps) = true := by simp [Region.wanted, hgd]
  rw [if_pos hw]
  unfold Oper.wp
  have hr : (execOp a.eval o).run Tryz.prog w = .ok (.enter f #[]) w := by
    simp [execOp, ho, resolve, invoke, hen, go_sem]
  rw [hr, Oper.upon_enter]
  refine hc.mono ?_
  rintro e w' ⟨u, rfl, hk⟩
  exact hk
theorem addI_in {most : Int} {l : List Sm} {s : Sm} (h1 : SN.okK s.ks = true) (hm : s ∈ l) : SN.addI most l s = (SN.posS s l : Int) := by unfold SN.addI; rw [if_pos h1, if_pos hm]
theorem addI_new {most : Int} {l : List Sm} {s : Sm} (h1 : SN.okK s.ks = true) (hm : s ∉ l) (hf : SN.fullB most l = false) : SN.addI most l s = (l.length : Int) := by unfold SN.addI; rw [if_pos h1, if_neg hm, hf]; rfl
theorem addE_ok {most : Int} {l : List Sm} {s : Sm} (h1 : SN.okK s.ks = true) (hf : SN.fullB most l = false) : SN.addE most l s = 0 := by unfold SN.addE; rw [if_pos h1, hf]; simp
theorem pt_vs {w : World} {p : Pt} {a b c d : Value} (h : PtAt w (.agg #[a, b, c, d]) p) : RowAt w d p.vs := by
  obtain ⟨k, v, e, _, h2⟩ := h
  cases e
  exact h2
set_option maxRecDepth 100000 in
set_option maxHeartbeats 4000000 in
theorem write_old {B : Nat} {P : Nat → Prop} {w : World} {b : Nat} {S : List Sc} {room : Int} {x : Lx} {pts : List Pt} {u : Value} {p : Pt} {l : List Sm} {R : List (List Sp)} (h : Lf B P w b S room x pts) (hl0 : Lk B P w b S room x l R pts.length) (hi : Iv pts l R) (hp : PtAt w u p) (hpk : ∀ w', Kp (Tl b x) w w' → PtAt w' u p) (hc : checkS S = 0) (hn : pts.length ≤ 254) (hr : ∀ v ∈ p.ks, SN.Rng v) (hP : ∀ k, w.heap.size ≤ k → P k)
    (hf : fitsS S p = 0) (hy : hasP pts p = false) (hlt : (pts.length : Int) < room) (hm : kyP p ∈ l) :
    Calls Tryz.prog 11 #[dp b, u] w fun e w' => e = .returned (.tuple #[.bool true, .int .i64 0]) ∧ Wr3 B P w b S room x (pts ++ [p]) w' := by
  obtain ⟨pk, ck, pv, cv, rfl, hrk, hrv⟩ := pt_form hp
  have HN := hid hn
  have HRg := hid hr
  obtain ⟨ps, cs, hsc, hsch⟩ := sc_slice h
  have hB0 := (Below.refl w.heap.size w).alloc (Nat.le_refl _) (.cells #[.string p.sc, .slice pk (List.length p.ks) ck, .int .i64 p.tm, .slice pv (List.length p.vs) cv] 34)
  have HB0 := hid hB0
  have KB0 := alloc_block w (.cells #[.string p.sc, .slice pk (List.length p.ks) ck, .int .i64 p.tm, .slice pv (List.length p.vs) cv] 34)
  have HL0 := hid (h.on hB0)
  obtain ⟨sv0, m0, l0, hdk⟩ := HL0.out.len
  have hS0 := bwOf KB0 hdk
  rw [hsc] at hS0
  have HS := hid hS0
  have HSc : Hid (SchsAt (w.alloc (.cells #[.string p.sc, .slice pk (List.length p.ks) ck, .int .i64 p.tm, .slice pv (List.length p.vs) cv] 34)) (.slice ps S.length cs) S) := by show SchsAt _ _ _; rw [← hsc]; exact hsch.on hB0
  have HPt := hid (hp.on hB0)
  have HZ := hid hf
  have HFF : Hid (List.length p.ks ≤ 2000000 ∧ p.sc.size ≤ 2000000 ∧ SN.okK p.ks = true) := by
    obtain ⟨h1, h2, h3, h4, _⟩ := fit_facts hc hf; exact ⟨by omega, by omega, h4⟩
  have HRv := hid (hrv.on hB0)
  have HSC := hid hsc
  have HPk : Hid (∀ w', Kp (Tl b x) w w' → RowAt w' (.slice pv (List.length p.vs) cv) p.vs) := fun w' hk => pt_vs (hpk w' hk)
  clear hpk
  have HRk := hid (hrk.on hB0)
  have HLW := hid (hl0.on hB0)
  have HI := hid hi
  have HMm := hid hm
  have HPW : Hid (∀ k, (w.alloc (.cells #[.string p.sc, .slice pk (List.length p.ks) ck, .int .i64 p.tm, .slice pv (List.length p.vs) cv] 34)).heap.size ≤ k → P k) := fun k hk => hP k (Nat.le_trans hB0.size hk)
  clear hl0 hi hm
  have HP := hid hP
  have KBX := hid KB0
  have hlt' : (pts.length : Int) < room := hlt
  have hn' := hn
  clear hr hn hsc hsch hB0 KB0 hdk hf hc hrk hrv hp h hP hlt
  generalize hnk : List.length p.ks = nk at *
  generalize List.length p.vs = nv at *
  have HNK := hid hnk
  clear hnk
  go_enter Tryz.func11, Tryz.ntmps11
  go_wp2_with fail
  generalize hBX : w.heap.size = BX at *
  have HBX := hid hBX
  generalize (w.alloc (.cells #[.string p.sc, .slice pk nk ck, .int .i64 p.tm, .slice pv nv cv] 34)) = W at *
  clear hBX
  generalize hNN : pts.length = NN at *
  have HNN := hid hNN
  clear hNN
  go_region_held3 (BW BX (.string p.sc) (.slice pk nk ck) (.int .i64 p.tm) (.slice pv nv cv) b (.slice ps S.length cs) (.int .i64 room) (.int .i64 (NN : Int)) (.map (some x.sm))) (((repeat (first | (with_reducible refine bwD ?_) | (with_reducible refine bwA ?_ _))); (with_reducible assumption)))
    (first
    | (refine step_call2 (v := .slice ps S.length cs) (v2 := .agg #[.string p.sc, .slice pk nk ck, .int .i64 p.tm, .slice pv nv cv]) rfl (.tmp 12) (.tmp 13) 22 34 rfl (by simp [Act.eval]) (by simp [Act.eval]) enters26 ?_; refine (sfits_is (HSc.out.on (Below.refl _ _).drew) (HPt.out.on (Below.refl _ _).drew) HZ.out).mono ?_; rintro e w1 ⟨rfl, hb1⟩; refine ⟨_, rfl, ?_⟩; have HB1 : Hid (Below W.heap.size W w1) := (Below.refl _ _).drew.trans hb1; have hS1 := bwOn HS.out HB1.out; clear hb1 hS0))
  have HL1 := hid (HL0.out.on HB1.out)
  have HPt1 := hid (HPt.out.on HB1.out)
  have HBw : Hid (∀ w', Below w1.heap.size w1 w' → Ov w w' ∧ Below W.heap.size W w') := fun w' hb => by
    refine ⟨?_, HB1.out.trans (hb.mono HB1.out.size)⟩
    show Below w.heap.size w w'
    have e := HBX.out
    have hq := HB0.out.size
    rw [e] at hq ⊢
    exact HB0.out.trans ((HB1.out.trans (hb.mono HB1.out.size)).mono hq)
  have HS1 := hid hS1
  obtain ⟨f1, f2, f3⟩ := HFF.out
  have HY := hid hy
  have HF1 := hid f1
  have HF2 := hid f2
  have HF3 := hid f3
  clear f1 f2 f3 hy
  have hcl := HS1.out.1
  obtain ⟨q0, q1, q2, q3⟩ := hcl
  go_wp2_with (first
    | (go_at_call 27; refine (has_is (p := p) HL1.out HPt1.out (by rw [HNN.out]; exact HN.out) (by rw [HNK.out]; exact HF1.out) HF2.out HRg.out HY.out).mono ?_; rintro e w2 ⟨rfl, hb2⟩; have HB2 := hid hb2; have hS2 := bwOn HS1.out hb2; clear hb2 hS1 q0 q1 q2 q3))
  go_region_held3 (BW BX (.string p.sc) (.slice pk nk ck) (.int .i64 p.tm) (.slice pv nv cv) b (.slice ps S.length cs) (.int .i64 room) (.int .i64 (NN : Int)) (.map (some x.sm))) (((repeat (first | (with_reducible refine bwD ?_) | (with_reducible refine bwA ?_ _))); (with_reducible assumption))) (fail)
  go_wp2_with fail
  have HB2d : Hid (Below W.heap.size W w2.drew) := (HBw.out _ HB2.out.drew).2
  have HOv : Hid (Ov w w2.drew) := (HBw.out _ HB2.out.drew).1
  have HL2 := hid (HLW.out.on HB2d.out)
  have HRk2 := hid (HRk.out.on HB2d.out)
  have HRv2 := hid (HRv.out.on HB2d.out)
  have KBX2 := hid (block_on KBX.out HB2d.out)
  have HP2 : Hid (∀ k, w2.drew.heap.size ≤ k → P k) := fun k hk => HPW.out k (Nat.le_trans HB2d.out.size hk)
  have hS2d : BW BX (.string p.sc) (.slice pk nk ck) (.int .i64 p.tm) (.slice pv nv cv) b (.slice ps S.length cs) (.int .i64 room) (.int .i64 (NN : Int)) (.map (some x.sm)) w2.drew := hS2
  clear hS2 HB2 HBw HB1 HL1 HPt1 HS1 HL0 HPt HS HLW HRk HRv HB2d HSc KBX HPW HB0
  generalize w2.drew = W2 at *
  clear HBX
  obtain ⟨j, hj⟩ : ∃ j, j = SN.posS (kyP p) l := ⟨_, rfl⟩
  have hj1 : l[j]? = some (kyP p) := by rw [hj]; exact SN.posS_get HMm.out
  have HJ1 := hid hj1
  have hjl : j < l.length := (List.getElem?_eq_some_iff.1 hj1).1
  have hlen : l.length ≤ 254 := by have := HI.out.l_le; rw [HNN.out] at this; omega
  have HLen : Hid (l.length ≤ 1000) := by show _ ≤ _; omega
  have hfull : SN.fullB room l = false := by
    have := HI.out.l_le
    rw [HNN.out] at this
    simp [SN.fullB]; omega
  have EI : Hid (SN.addI room l (kyP p) = (j : Int)) := by show _ = _; rw [addI_in HF3.out HMm.out, hj]
  have EE : Hid (SN.addE room l (kyP p) = 0) := addE_ok HF3.out hfull
  have EA : Hid (SN.addL room l (kyP p) = l) := SN.addL_in (by simp [SN.memS, HMm.out])
  obtain ⟨r, q, hr1, hq1, hrk1⟩ := rs_at HL2.out hj1
  have HR1 := hid hr1
  have HQ1 := hid hq1
  have E3 : Hid (RN.hasT q p.tm = false) := by have := HI.out.has hj1 hq1; rw [HY.out] at this; exact this.symm
  have HQ : Hid (q.length ≤ 254) := by have := HI.out.q_le hq1; rw [HNN.out] at this; show _ ≤ _; omega
  have hj1000 : j ≤ 1000 := by omega
  have HBj : Hid ((x.rs.map Rm.b)[j]? = some r.b) := by show _ = _; rw [List.getElem?_map, hr1]; rfl
  have HBs : Hid (B ≤ W2.heap.size) := by show _ ≤ _; have h0 := HL2.out.dk.bB; have := lt_of_block HL2.out.dk.blk; omega
  clear hj hj1 hr1 hq1 hrk1 hfull hjl hlen HFF HZ HMm
  have HL2d := hid (HL2.out.on (Below.refl _ _).drew)
  go_region_held3 (BW BX (.string p.sc) (.slice pk nk ck) (.int .i64 p.tm) (.slice pv nv cv) b (.slice ps S.length cs) (.int .i64 room) (.int .i64 (NN : Int)) (.map (some x.sm))) (((repeat (first | (with_reducible refine bwD ?_) | (with_reducible refine bwA ?_ _))); (with_reducible assumption)))
    (first
    | (refine step_call3 (v := .pointer (some ⟨b, 3, none⟩)) (v2 := .string p.sc) (v3 := .slice pk nk ck) rfl (.tmp 33) (.tmp 35) (.tmp 37) 67 9 32 rfl (by simp [Act.eval]) (by simp [Act.eval]) (by simp [Act.eval]) enters28 ?_; refine (SN.add_any (s := kyP p) HL2d.out.dk (HRk2.out.on (Below.refl _ _).drew) (by rw [show List.length (kyP p).ks = nk from HNK.out]; exact HF1.out) HF2.out HRg.out HLen.out HP2.out HBs.out).mono ?_; rintro e w3 ⟨rfl, ⟨sv3, hd3, hat3⟩, hk3⟩; refine ⟨_, rfl, ?_⟩; rw [EI.out, EE.out]; rw [EA.out] at hd3; have HD3 := hid hd3; have HAt3 := hid hat3; have HK3 : Hid (Kp (SN.Tc b x.sv x.m) W2 w3) := ((Kp.of (Below.refl _ _).drew).trans hk3); have KBX3 := hid (HK3.out.blk KBX2.out (HL2.out.dk.T_not KBX2.out (by decide) (by decide))); have hS3 : BW BX (.string p.sc) (.slice pk nk ck) (.int .i64 p.tm) (.slice pv nv cv) b (.slice ps S.length cs) (.int .i64 room) (.int .i64 (NN : Int)) (.map (some x.sm)) w3 := (by have := bwOf KBX3.out hd3; rw [HSC.out] at this; exact this); clear hd3 hat3 hk3 hS2d))
  obtain ⟨hsch3, ⟨D, hD, hA⟩, hrl3⟩ := lk_dict HL2.out HK3.out
  have HD := hid hD
  have HRl3 := hid hrl3
  have hlk : (Instr.lookup 70 (.map (some x.sm)) (.int .i64 (j : Int)) false).run Tryz.prog w3 = .ok (dp r.b) w3 := look_in hD hA HBj.out hj1000
  have hlkd : (Instr.lookup 70 (.map (some x.sm)) (.int .i64 (j : Int)) false).run Tryz.prog w3.drew = .ok (dp r.b) w3.drew := look_in (pmap_kp (T := fun _ => False) hD (Kp.of (Below.refl _ _).drew) id) hA HBj.out hj1000
  have hc6 : w3.cell? ⟨b, 6, none⟩ = some (.map (some x.sm)) := hS3.2.2.2.2
  clear hsch3 hD hA hrl3
  go_wp2_with fail
  have HKw : Hid (Kp (Tl b x) w w3) := (Kp.of HOv.out).trans (HK3.out.imp (fun k h => .inl h))
  have HRv3 := hid (HPk.out _ HKw.out)
  have HRk3 := hid (HRl3.out.run j r q HR1.out HQ1.out)
  have HP3 : Hid (∀ k, w3.heap.size ≤ k → P k) := fun k hk => HP2.out k (Nat.le_trans HK3.out.size hk)
  have HBs3 : Hid (B ≤ w3.heap.size) := Nat.le_trans HBs.out HK3.out.size
  have HS3 := hid hS3
  clear hlk hc6
  go_region_held3 (BW BX (.string p.sc) (.slice pk nk ck) (.int .i64 p.tm) (.slice pv nv cv) b (.slice ps S.length cs) (.int .i64 room) (.int .i64 (NN : Int)) (.map (some x.sm))) (((repeat (first | (with_reducible refine bwD ?_) | (with_reducible refine bwA ?_ _))); (with_reducible assumption)))
    (first
    | (refine step_call3 (v := dp r.b) (v2 := .int .i64 p.tm) (v3 := .slice pv nv cv) rfl (.tmp 62) (.tmp 64) (.tmp 66) 74 3 32 rfl (by simp [Act.eval]) (by simp [Act.eval]) (by simp [Act.eval]) enters30 ?_; refine (RN.add_any (s := spP p) (HRk3.out.on (Below.refl _ _).drew) (Nat.le_trans HQ.out (by decide)) (HRv3.out.on (Below.refl _ _).drew) HP3.out HBs3.out).mono ?_; rintro e w4 ⟨rfl, sv4, pv4, hn4, hk4, ht4⟩; refine ⟨_, rfl, ?_⟩; have HN4 := hid hn4; have HK4 : Hid (Kp (RN.Tr r.b r.sv r.pv) w3 w4) := ((Kp.of (Below.refl _ _).drew).trans hk4); have HT4 : Hid (∀ k, RN.Tr r.b sv4 pv4 k → RN.Tr r.b r.sv r.pv k ∨ w3.heap.size ≤ k) := ht4; have KBX4 := HK4.out.blk KBX3.out (HRk3.out.T_not KBX3.out (by decide) (by decide) (by decide)); have KB4 := dk_run (r := r) HD3.out HRk3.out HK4.out; have hS4 : BW BX (.string p.sc) (.slice pk nk ck) (.int .i64 p.tm) (.slice pv nv cv) b (.slice ps S.length cs) (.int .i64 room) (.int .i64 (NN : Int)) (.map (some x.sm)) w4 := (by have := bwOf KBX4 KB4; rw [HSC.out] at this; exact this); have HF4 := hid (RN.block_frozen KB4.blk); clear hn4 hk4 ht4 hS3 KBX4 KB4))
  have hc2 : w4.cell? ⟨b, 2, none⟩ = some (.int .i64 (NN : Int)) := hS4.2.2.2.1
  have fr := HF4.out
  go_wp2_with fail
  have e := HNN.out
  subst e
  exact bodyPost_ret (v := .tuple #[.bool true, .int .i64 0]) (by simp [results, Tryz.results11, go_sem]) rfl ⟨rfl, Wr3.from HOv.out (fin_old HL2.out HI.out HJ1.out HR1.out HQ1.out E3.out HD3.out HAt3.out HK3.out HN4.out HK4.out HT4.out)⟩
end Go.Proofs.YtlbjbkhcnafhcaaGreat
