/-
  What Write of package leaf returns where it writes to a stream that was not there, and what it leaves.
-/
import Derived.Test.YtlbjbkhcnafhcaaGreatQLWrite3
namespace Go.Proofs.YtlbjbkhcnafhcaaGreat
open Go.RowKit Go.Sort Go.Shelf Go.Maps

theorem mid5 {B : Nat} {P : Nat → Prop} {w2 w3 w4 w5 : World} {b rb : Nat} {S : List Sc} {room : Int} {x : Lx} {l l' : List Sm} {R : List (List Sp)} {n : Nat} {sv' : Value}
    (h : Lk B P w2 b S room x l R n) (hd : SN.Dk (fxL room n x) B P w3 b room sv' x.m l') (hk : Kp (SN.Tc b x.sv x.m) w2 w3) (hb4 : Below w3.heap.size w3 w4) (hn4 : RN.Rk w3.heap.size P w4 rb (.slice none 0 0) (.slice none 0 0) []) (hg5 : w4.grownBy w5 (some x.sm)) :
    SN.Dk (fxL room n x) B P w5 b room sv' x.m l' ∧ RN.Rk w3.heap.size P w5 rb (.slice none 0 0) (.slice none 0 0) [] ∧ (∀ {k : Nat} {cs : Array Value} {t : TypeId} {fz : Nat × Nat}, w3.heap[k]? = some (.cells cs t fz) → w5.heap[k]? = some (.cells cs t fz)) ∧ Kp (Tl b x) w2 w5 := by
  obtain ⟨sch3, ⟨D, hD, ha⟩, rl3⟩ := lk_dict h hk
  have hk5 : Kp (fun k => k = x.sm) w4 w5 := Kp.grown hg5 (fun k e => by cases e; rfl)
  have d4 := hd.on hb4
  have D4 := pmap_kp (T := fun _ => False) hD (Kp.of hb4) id
  obtain ⟨es, c, hb⟩ := pmap_blk D4
  have offm : ∀ {k : Nat} {cs : Array Value} {t : TypeId} {fz : Nat × Nat}, w4.heap[k]? = some (.cells cs t fz) → ¬ k = x.sm := fun hc e => by rw [e, hb] at hc; cases hc
  refine ⟨?_, ?_, fun hc => ?_, ?_⟩
  · obtain ⟨hs, ho, hh⟩ := d4.row
    refine d4.kp hk5 (offm d4.blk) (fun g hg => ?_) (fun e => h.ne e.symm) (fun k hk => ?_)
    · obtain ⟨c, f, hc⟩ := own_kind ho hg
      exact offm hc
    · obtain ⟨-, c, fz, hc⟩ := hk
      exact offm hc
  · exact hn4.kp hk5 (fun k hk => by
      obtain ⟨cs, t, fz, hc, _⟩ := hn4.T_kind k hk
      exact offm hc) (fun k hk => by obtain ⟨-, c, fz, hc⟩ := hk; exact offm hc)
  · have h4 := block_on hc hb4
    exact hk5.blk h4 (offm h4)
  · exact ((hk.imp (T' := Tl b x) (fun k h => .inl h)).trans (Kp.of hb4)).trans (hk5.imp (T' := Tl b x) (fun k h => .inr (.inl h)))
set_option maxRecDepth 100000 in
set_option maxHeartbeats 4000000 in
theorem write_new {B : Nat} {P : Nat → Prop} {w : World} {b : Nat} {S : List Sc} {room : Int} {x : Lx} {pts : List Pt} {u : Value} {p : Pt} {l : List Sm} {R : List (List Sp)} (h : Lf B P w b S room x pts) (hl0 : Lk B P w b S room x l R pts.length) (hi : Iv pts l R) (hp : PtAt w u p) (hpk : ∀ w', Kp (Tl b x) w w' → PtAt w' u p) (hc : checkS S = 0) (hn : pts.length ≤ 254) (hr : ∀ v ∈ p.ks, SN.Rng v) (hP : ∀ k, w.heap.size ≤ k → P k)
    (hf : fitsS S p = 0) (hy : hasP pts p = false) (hlt : (pts.length : Int) < room) (hm : kyP p ∉ l) :
    Calls Tryz.prog 11 #[dp b, u] w fun e w' => e = .returned (.tuple #[.bool true, .int .i64 0]) ∧ Wr3 B P w b S room x (pts ++ [p]) w' := by
  obtain ⟨pk, ck, pv, cv, rfl, hrk, hrv⟩ := pt_form hp
  have HN := hid hn
  have HRg := hid hr
  obtain ⟨ps, cs, hsc, hsch⟩ := sc_slice h
  have hB0 := (Below.refl w.heap.size w).alloc (Nat.le_refl _) (.cells #[.string p.sc, .slice pk (List.length p.ks) ck, .int .i64 p.tm, .slice pv (List.length p.vs) cv] 34)
  have HB0 := hid hB0
  have KB0 := alloc_block w (.cells #[.string p.sc, .slice pk (List.length p.ks) ck, .int .i64 p.tm, .slice pv (List.length p.vs) cv] 34)
  have HL0 := hid (h.on hB0)
  obtain ⟨sv0, m0, l0, hdk⟩ := HL0.out.len
  have hS0 := bwOf KB0 hdk
  rw [hsc] at hS0
  have HS := hid hS0
  have HSc : Hid (SchsAt (w.alloc (.cells #[.string p.sc, .slice pk (List.length p.ks) ck, .int .i64 p.tm, .slice pv (List.length p.vs) cv] 34)) (.slice ps S.length cs) S) := by show SchsAt _ _ _; rw [← hsc]; exact hsch.on hB0
  have HPt := hid (hp.on hB0)
  have HZ := hid hf
  have HFF : Hid (List.length p.ks ≤ 2000000 ∧ p.sc.size ≤ 2000000 ∧ SN.okK p.ks = true) := by
    obtain ⟨h1, h2, h3, h4, _⟩ := fit_facts hc hf; exact ⟨by omega, by omega, h4⟩
  have HRv := hid (hrv.on hB0)
  have HSC := hid hsc
  have HPk : Hid (∀ w', Kp (Tl b x) w w' → RowAt w' (.slice pv (List.length p.vs) cv) p.vs) := fun w' hk => pt_vs (hpk w' hk)
  clear hpk
  have HRk := hid (hrk.on hB0)
  have HLW := hid (hl0.on hB0)
  have HI := hid hi
  have HMm := hid hm
  have HPW : Hid (∀ k, (w.alloc (.cells #[.string p.sc, .slice pk (List.length p.ks) ck, .int .i64 p.tm, .slice pv (List.length p.vs) cv] 34)).heap.size ≤ k → P k) := fun k hk => hP k (Nat.le_trans hB0.size hk)
  clear hl0 hi hm
  have HP := hid hP
  have KBX := hid KB0
  have hlt' : (pts.length : Int) < room := hlt
  have hn' := hn
  clear hr hn hsc hsch hB0 KB0 hdk hf hc hrk hrv hp h hP hlt
  generalize hnk : List.length p.ks = nk at *
  generalize List.length p.vs = nv at *
  have HNK := hid hnk
  clear hnk
  go_enter Tryz.func11, Tryz.ntmps11
  go_wp2_with fail
  generalize hBX : w.heap.size = BX at *
  have HBX := hid hBX
  generalize (w.alloc (.cells #[.string p.sc, .slice pk nk ck, .int .i64 p.tm, .slice pv nv cv] 34)) = W at *
  clear hBX
  generalize hNN : pts.length = NN at *
  have HNN := hid hNN
  clear hNN
  go_region_held3 (BW BX (.string p.sc) (.slice pk nk ck) (.int .i64 p.tm) (.slice pv nv cv) b (.slice ps S.length cs) (.int .i64 room) (.int .i64 (NN : Int)) (.map (some x.sm))) (((repeat (first | (with_reducible refine bwD ?_) | (with_reducible refine bwA ?_ _))); (with_reducible assumption)))
    (first
    | (refine step_call2 (v := .slice ps S.length cs) (v2 := .agg #[.string p.sc, .slice pk nk ck, .int .i64 p.tm, .slice pv nv cv]) rfl (.tmp 12) (.tmp 13) 22 34 rfl (by simp [Act.eval]) (by simp [Act.eval]) enters26 ?_; refine (sfits_is (HSc.out.on (Below.refl _ _).drew) (HPt.out.on (Below.refl _ _).drew) HZ.out).mono ?_; rintro e w1 ⟨rfl, hb1⟩; refine ⟨_, rfl, ?_⟩; have HB1 : Hid (Below W.heap.size W w1) := (Below.refl _ _).drew.trans hb1; have hS1 := bwOn HS.out HB1.out; clear hb1 hS0))
  have HL1 := hid (HL0.out.on HB1.out)
  have HPt1 := hid (HPt.out.on HB1.out)
  have HBw : Hid (∀ w', Below w1.heap.size w1 w' → Ov w w' ∧ Below W.heap.size W w') := fun w' hb => by
    refine ⟨?_, HB1.out.trans (hb.mono HB1.out.size)⟩
    show Below w.heap.size w w'
    have e := HBX.out
    have hq := HB0.out.size
    rw [e] at hq ⊢
    exact HB0.out.trans ((HB1.out.trans (hb.mono HB1.out.size)).mono hq)
  have HS1 := hid hS1
  obtain ⟨f1, f2, f3⟩ := HFF.out
  have HY := hid hy
  have HF1 := hid f1
  have HF2 := hid f2
  have HF3 := hid f3
  clear f1 f2 f3 hy
  have hcl := HS1.out.1
  obtain ⟨q0, q1, q2, q3⟩ := hcl
  go_wp2_with (first
    | (go_at_call 27; refine (has_is (p := p) HL1.out HPt1.out (by rw [HNN.out]; exact HN.out) (by rw [HNK.out]; exact HF1.out) HF2.out HRg.out HY.out).mono ?_; rintro e w2 ⟨rfl, hb2⟩; have HB2 := hid hb2; have hS2 := bwOn HS1.out hb2; clear hb2 hS1 q0 q1 q2 q3))
  go_region_held3 (BW BX (.string p.sc) (.slice pk nk ck) (.int .i64 p.tm) (.slice pv nv cv) b (.slice ps S.length cs) (.int .i64 room) (.int .i64 (NN : Int)) (.map (some x.sm))) (((repeat (first | (with_reducible refine bwD ?_) | (with_reducible refine bwA ?_ _))); (with_reducible assumption))) (fail)
  go_wp2_with fail
  have HB2d : Hid (Below W.heap.size W w2.drew) := (HBw.out _ HB2.out.drew).2
  have HOv : Hid (Ov w w2.drew) := (HBw.out _ HB2.out.drew).1
  have HL2 := hid (HLW.out.on HB2d.out)
  have HRk2 := hid (HRk.out.on HB2d.out)
  have HRv2 := hid (HRv.out.on HB2d.out)
  have KBX2 := hid (block_on KBX.out HB2d.out)
  have HP2 : Hid (∀ k, w2.drew.heap.size ≤ k → P k) := fun k hk => HPW.out k (Nat.le_trans HB2d.out.size hk)
  have hS2d : BW BX (.string p.sc) (.slice pk nk ck) (.int .i64 p.tm) (.slice pv nv cv) b (.slice ps S.length cs) (.int .i64 room) (.int .i64 (NN : Int)) (.map (some x.sm)) w2.drew := hS2
  clear hS2 HB2 HBw HB1 HL1 HPt1 HS1 HL0 HPt HS HLW HRk HRv HB2d HSc KBX HPW HB0
  generalize w2.drew = W2 at *
  clear HBX
  have hlen : l.length ≤ 254 := by have := HI.out.l_le; rw [HNN.out] at this; omega
  have HLen : Hid (l.length ≤ 1000) := by show _ ≤ _; omega
  have hfull : SN.fullB room l = false := by
    have := HI.out.l_le
    rw [HNN.out] at this
    simp [SN.fullB]; omega
  obtain ⟨j, hj⟩ : ∃ j, l.length = j := ⟨_, rfl⟩
  have HJ := hid hj
  have EI : Hid (SN.addI room l (kyP p) = (j : Int)) := by show _ = _; rw [addI_new HF3.out HMm.out hfull, hj]
  have EE : Hid (SN.addE room l (kyP p) = 0) := addE_ok HF3.out hfull
  have EA : Hid (SN.addL room l (kyP p) = l ++ [kyP p]) := SN.addL_new HF3.out (by simp [SN.memS, HMm.out]) hfull
  have hj1000 : j ≤ 1000 := by omega
  have HRsl : Hid ((x.rs.map Rm.b).length = j) := by show _ = _; rw [List.length_map, HL2.out.rl.len, HL2.out.len, hj]
  have HBs : Hid (B ≤ W2.heap.size) := by show _ ≤ _; have h0 := HL2.out.dk.bB; have := lt_of_block HL2.out.dk.blk; omega
  clear hj hfull hlen HFF HZ
  have HL2d := hid (HL2.out.on (Below.refl _ _).drew)
  go_region_held3 (BW BX (.string p.sc) (.slice pk nk ck) (.int .i64 p.tm) (.slice pv nv cv) b (.slice ps S.length cs) (.int .i64 room) (.int .i64 (NN : Int)) (.map (some x.sm))) (((repeat (first | (with_reducible refine bwD ?_) | (with_reducible refine bwA ?_ _))); (with_reducible assumption)))
    (first
    | (refine step_call3 (v := .pointer (some ⟨b, 3, none⟩)) (v2 := .string p.sc) (v3 := .slice pk nk ck) rfl (.tmp 33) (.tmp 35) (.tmp 37) 67 9 32 rfl (by simp [Act.eval]) (by simp [Act.eval]) (by simp [Act.eval]) enters28 ?_; refine (SN.add_any (s := kyP p) HL2d.out.dk (HRk2.out.on (Below.refl _ _).drew) (by rw [show List.length (kyP p).ks = nk from HNK.out]; exact HF1.out) HF2.out HRg.out HLen.out HP2.out HBs.out).mono ?_; rintro e w3 ⟨rfl, ⟨sv3, hd3, hat3⟩, hk3⟩; refine ⟨_, rfl, ?_⟩; rw [EI.out, EE.out]; rw [EA.out] at hd3; have HD3 := hid hd3; have HAt3 := hid hat3; have HK3 : Hid (Kp (SN.Tc b x.sv x.m) W2 w3) := ((Kp.of (Below.refl _ _).drew).trans hk3); have KBX3 := hid (HK3.out.blk KBX2.out (HL2.out.dk.T_not KBX2.out (by decide) (by decide))); have hS3 : BW BX (.string p.sc) (.slice pk nk ck) (.int .i64 p.tm) (.slice pv nv cv) b (.slice ps S.length cs) (.int .i64 room) (.int .i64 (NN : Int)) (.map (some x.sm)) w3 := (by have := bwOf KBX3.out hd3; rw [HSC.out] at this; exact this); clear hd3 hat3 hk3 hS2d))
  obtain ⟨hsch3, ⟨D, hD, hA⟩, hrl3⟩ := lk_dict HL2.out HK3.out
  have HD := hid hD
  have HRl3 := hid hrl3
  have hlk : (Instr.lookup 70 (.map (some x.sm)) (.int .i64 (j : Int)) false).run Tryz.prog w3 = .ok (.pointer none) w3 := by rw [← HRsl.out]; exact look_out hD hA (by rw [HRsl.out]; omega)
  have hc6 : w3.cell? ⟨b, 6, none⟩ = some (.map (some x.sm)) := hS3.2.2.2.2
  have HA := hid hA
  clear hsch3 hD hA hrl3
  go_wp2_with fail
  have HKw : Hid (Kp (Tl b x) w w3) := (Kp.of HOv.out).trans (HK3.out.imp (fun k h => .inl h))
  have HS3 := hid hS3
  have hc6d : w3.drew.cell? ⟨b, 6, none⟩ = some (.map (some x.sm)) := hc6
  clear hlk hS3
  go_region_with (first
    | (go_at_call 29; refine (RN.new_any (P := P)).mono ?_; rintro e w4 ⟨rb, rfl, hn4, hb4⟩; have HN4 := hid hn4; have HB4 : Hid (Below w3.heap.size w3 w4) := (Below.refl _ _).drew.trans hb4; have HD4 := hid (pmap_kp (T := fun _ => False) HD.out (Kp.of HB4.out) id); have hc64 : w4.cell? ⟨b, 6, none⟩ = some (.map (some x.sm)) := SN.cell_onB hc6 HB4.out; obtain ⟨w5, hrun5, hown5, hg5⟩ := HD4.out.update (t := 70) (e := 74) law3 Tryz.underlying70 (by have := HLen.out; unfold maxLen; omega) (key3n hj1000) (pElem_dp rb); have HO5 := hid hown5; have HG5 := hid hg5; clear hown5 hg5 hn4 hb4))
  all_goals
    obtain ⟨hd5, hn5, hbl5, hkk5⟩ := mid5 HL2.out HD3.out HK3.out HB4.out HN4.out HG5.out
    have ha5 := HA.out.put (b := rb) HD4.out.isMap
    rw [HRsl.out] at ha5
    have HA5 := hid ha5
    have HD5 := hid hd5
    have HN5 := hid hn5
    have HKw5 : Hid (Kp (Tl b x) w w5) := (Kp.of HOv.out).trans hkk5
    have hsz3 := HK3.out.size
    have hsz5 : w3.heap.size ≤ w5.heap.size := Nat.le_trans HB4.out.size HG5.out.size
    have HBs3 : Hid (B ≤ w3.heap.size) := Nat.le_trans HBs.out hsz3
    have HRk5 := hid (hn5.le HBs3.out)
    have KBX5 := hid (hbl5 KBX3.out)
    have hS5 : BW BX (.string p.sc) (.slice pk nk ck) (.int .i64 p.tm) (.slice pv nv cv) b (.slice ps S.length cs) (.int .i64 room) (.int .i64 (NN : Int)) (.map (some x.sm)) w5 := by
      have := bwOf KBX5.out hd5
      rw [HSC.out] at this
      exact this
    have HRv5 := hid (HPk.out _ HKw5.out)
    have HP5 : Hid (∀ k, w5.heap.size ≤ k → P k) := fun k hk => HP2.out k (by omega)
    have HBs5 : Hid (B ≤ w5.heap.size) := Nat.le_trans HBs3.out hsz5
    have hlkd : (Instr.lookup 70 (.map (some x.sm)) (.int .i64 (j : Int)) false).run Tryz.prog w5.drew = .ok (dp rb) w5.drew := look_in (pmap_kp (T := fun _ => False) HO5.out (Kp.of (Below.refl _ _).drew) id) ha5 (by rw [← HRsl.out]; simp) hj1000
    clear hd5 hn5 hbl5 hkk5 ha5 hrun5 hc6 hc6d hc64
    go_wp2_with fail
    go_region_held3 (BW BX (.string p.sc) (.slice pk nk ck) (.int .i64 p.tm) (.slice pv nv cv) b (.slice ps S.length cs) (.int .i64 room) (.int .i64 (NN : Int)) (.map (some x.sm))) (((repeat (first | (with_reducible refine bwD ?_) | (with_reducible refine bwA ?_ _))); (with_reducible assumption)))
      (first
      | (refine step_call3 (v := dp rb) (v2 := .int .i64 p.tm) (v3 := .slice pv nv cv) rfl (.tmp 62) (.tmp 64) (.tmp 66) 74 3 32 rfl (by simp [Act.eval]) (by simp [Act.eval]) (by simp [Act.eval]) enters30 ?_; refine (RN.add_any (s := spP p) (HRk5.out.on (Below.refl _ _).drew) (Nat.zero_le _) (HRv5.out.on (Below.refl _ _).drew) HP5.out HBs5.out).mono ?_; rintro e w6 ⟨rfl, sv6, pv6, hn6, hk6, ht6⟩; refine ⟨_, rfl, ?_⟩; have HN6 := hid hn6; have HK6 : Hid (Kp (RN.Tr rb (.slice none 0 0) (.slice none 0 0)) w5 w6) := ((Kp.of (Below.refl _ _).drew).trans hk6); have HT6 : Hid (∀ k, RN.Tr rb sv6 pv6 k → RN.Tr rb (.slice none 0 0) (.slice none 0 0) k ∨ w5.heap.size ≤ k) := ht6; have KBX6 := HK6.out.blk KBX5.out (HRk5.out.T_not KBX5.out (by decide) (by decide) (by decide)); have KB6 := dk_run (r := ⟨rb, .slice none 0 0, .slice none 0 0⟩) HD5.out HRk5.out HK6.out; have hS6 : BW BX (.string p.sc) (.slice pk nk ck) (.int .i64 p.tm) (.slice pv nv cv) b (.slice ps S.length cs) (.int .i64 room) (.int .i64 (NN : Int)) (.map (some x.sm)) w6 := (by have := bwOf KBX6 KB6; rw [HSC.out] at this; exact this); have HF6 := hid (RN.block_frozen KB6.blk); clear hn6 hk6 ht6 hS5 KBX6 KB6))
    have hc2 : w6.cell? ⟨b, 2, none⟩ = some (.int .i64 (NN : Int)) := hS6.2.2.2.1
    have fr := HF6.out
    go_wp2_with fail
    have e := HNN.out
    subst e
    exact bodyPost_ret (v := .tuple #[.bool true, .int .i64 0]) (by simp [results, Tryz.results11, go_sem]) rfl ⟨rfl, Wr3.from HOv.out (fin_new HL2.out HI.out HMm.out HD3.out HAt3.out HK3.out HB4.out HN4.out HO5.out HA5.out HG5.out HN6.out HK6.out HT6.out)⟩
/- Write, for every leaf and every point. -/
theorem write_any {B : Nat} {P : Nat → Prop} {w : World} {b : Nat} {S : List Sc} {room : Int} {x : Lx} {pts : List Pt} {u : Value} {p : Pt} (h : Lf B P w b S room x pts) (hpk : ∀ w', Kp (Tl b x) w w' → PtAt w' u p) (hc : checkS S = 0) (hn : pts.length ≤ 254) (hr : ∀ v ∈ p.ks, SN.Rng v) (hP : ∀ k, w.heap.size ≤ k → P k) :
    Calls Tryz.prog 11 #[dp b, u] w (WrP B P w b S room x pts p) := by
  have hp : PtAt w u p := hpk w (Kp.refl _ _)
  cases hw : wrN S room pts p with
  | false => exact write_not h hp hc hn hr hw
  | true =>
    have hw' := hw
    simp only [wrN, Bool.and_eq_true, Bool.not_eq_true', decide_eq_true_eq] at hw'
    obtain ⟨h1, h2, h3⟩ := hw'
    have EE : wrE S room pts p = 0 := by unfold wrE; rw [if_pos h1, h2, if_neg (by decide), if_pos h3]
    have EL : wrL S room pts p = pts ++ [p] := by unfold wrL; rw [hw]; rfl
    obtain ⟨l, R, hl, hi⟩ := h.lk
    unfold WrP
    rw [hw, EE, EL]
    by_cases hm : kyP p ∈ l
    · exact write_old h hl hi hp hpk hc hn hr hP h1 h2 h3 hm
    · exact write_new h hl hi hp hpk hc hn hr hP h1 h2 h3 hm
end Go.Proofs.YtlbjbkhcnafhcaaGreat
