/-
  Print's writer: a step.
-/
import Derived.Test.YtmpjmimhoikknaaGreatDoorK21
namespace Go.Proofs.YtmpjmimhoikknaaGreatDoor
open Go.RowKit Go.Joins

abbrev STp (nb : Nat) (v1 v2 : Value) (w : World) : Prop := w.cell? ⟨nb, 1, none⟩ = some v1 ∧ w.cell? ⟨nb, 2, none⟩ = some v2
theorem sTpB {nb : Nat} {v1 v2 : Value} {w w' : World} (h : STp nb v1 v2 w) (hb : Below w.heap.size w w') : STp nb v1 v2 w' :=
  ⟨(hb.cell (p := ⟨nb, 1, none⟩) (block_lt_of_cell (h.1))).trans h.1, (hb.cell (p := ⟨nb, 2, none⟩) (block_lt_of_cell (h.2))).trans h.2⟩
theorem sTpD {nb : Nat} {v1 v2 : Value} {w : World} (h : STp nb v1 v2 w) : STp nb v1 v2 w.drew := h
theorem sTpA {nb : Nat} {v1 v2 : Value} {w : World} {x : Obj} (h : STp nb v1 v2 w) : STp nb v1 v2 (w.alloc x) := sTpB h ((Below.refl _ _).alloc (Nat.le_refl _) x)
theorem sTpK {nb : Nat} {v1 v2 : Value} {w w' : World} {T : Nat → Prop} (h : STp nb v1 v2 w) (hk : Kp T w w') (n0 : ¬ T nb) : STp nb v1 v2 w' :=
  ⟨hk.cell h.1 n0, hk.cell h.2 n0⟩
def LeB (n : Nat) : Prop := n * 16 ≤ 140737488355328
theorem LeB.mono {m n : Nat} (h : LeB n) (hle : m ≤ n) : m * 16 ≤ 140737488355328 := Nat.le_trans (Nat.mul_le_mul_right 16 hle) h
section
variable {B : Nat} {qs : List Nx} {w w' : World} {wb : Nat} {nv wv wv' : Value} {ws ws' us : List (List UInt8)} {nb : Nat} {q : Nx}
theorem Bq.stp (h : Bq B qs nb q w wb nv wv ws) : STp nb (.string (St q.np.s)) (.int .i64 q.np.n) w := ⟨h.cell (j := 1) rfl, h.cell (j := 2) rfl⟩
theorem Bq.sc0 (h : Bq B qs nb q w wb nv wv ws) {k : Int} (hk : q.np.kind = k) : w.cell? ⟨nb, 0, none⟩ = some (.int .i64 k) := by rw [← hk]; exact h.cell (j := 0) rfl
theorem SyP.trans2 {W : World} {e : Ending} {wv2 : Value} {ws' : List (List UInt8)} (hk : Below w.heap.size w W) (ha : At W wv wv2) (hkk : Kp (Tq wb wv) W w') (h : Wr B w' wb nv wv2 ws') (he : e = .returned (.tuple #[])) : SyP B wb nv wv ws' w e w' := SyP.of hk ⟨he, wv2, h, ha, hkk⟩
set_option maxRecDepth 100000 in
set_option maxHeartbeats 4000000 in
theorem wstep_2 {d a b : Nat} (hN : NodeP B qs wb nv d) (ha : a < d ∧ a < qs.length) (hb' : b < d ∧ b < qs.length) (h : Ws B qs w wb nv wv ws) (hm : q ∈ qs) (hk : q.np.kind = 2) (hl : q.np.l = [(a : Int), (b : Int)]) (hb : (ws.length + (stepX (wd (qs.map xn) d) q.np).length) * 16 ≤ 140737488355328) : Calls Tryz.prog 102 #[dp wb, .agg q.cells.toArray] w (SyP B wb nv wv (ws ++ stepX (wd (qs.map xn) d) q.np) w) := by
  have e0 : stepX (wd (qs.map xn) d) q.np = wd (qs.map xn) d a ++ [wBar, kindL.getD 2 []] ++ ((wd (qs.map xn) d) b) := by
    unfold stepX tailX lAt
    rw [if_pos hk, hk, hl]; rfl
  rw [e0] at hb
  generalize hR : ws ++ stepX (wd (qs.map xn) d) q.np = R
  have HR : Hid (R = ws ++ wd (qs.map xn) d a ++ [wBar, kindL.getD 2 []] ++ ((wd (qs.map xn) d) b)) := by show _ = _; rw [← hR, e0]; simp only [List.append_assoc]
  simp only [List.length_append, List.length_cons, List.length_nil, Nat.zero_add, Nat.reduceAdd] at hb
  obtain ⟨gl, ol, cl, hlv, hcl⟩ := h.lv hm (by rw [hl]; simp)
  rw [hl] at hlv hcl
  have hcl2 : (2 : Int) ≤ cl := hcl
  have hlv2 : q.lv = .slice (some ⟨gl, ol, none⟩) 2 cl := hlv
  have HBd := hid (show LeB _ from hb)
  have HN := hid hN
  have HLa := hid ha
  have HM := hid hm
  have HL := hid hl
  have HLv := hid hlv2
  have HK := hid hk
  have HLb := hid hb'
  have HQ := hid (Bq.box (q := q) h)
  have HB0 := hid (box_below (w := w) (q := q))
  generalize hW : w.alloc (.cells q.cells.toArray 44) = w1 at *
  have HW := hid hW
  obtain ⟨-, c16, cl0, -⟩ := HQ.out.sc2 HM.out HL.out HLv.out
  have M1 : Hid True := trivial
  obtain ⟨kw, hkw⟩ : ∃ kw, kindL.getD 2 [] = kw := ⟨_, rfl⟩
  have HKw := hid hkw
  rw [hkw] at HR
  clear hkw
  clear h hN ha hb' hb hm hl hlv hlv2 hcl hk hR e0 hW
  go_enter Tryz.func102, Tryz.ntmps102
  go_upto_region 1 with fail
  rw [HW.out]
  go_upto_region 3 with (first
    | (go_at_call 56; clear M1; refine (HN.out a w1 wv ws HLa.out.1 HLa.out.2 HQ.out.s (HBd.out.mono (by omega))).mono ?_; rintro e w2 hs; obtain ⟨wv2, hq2, ha2, hk2⟩ := HQ.out.next hs; have HQ2 := hid hq2; have HA2 := hid ha2; have HK2 := hid hk2; have d0 := hq2.sc0 HK.out; have dk := hq2.s.g.p.kind 2 (by decide); rw [HKw.out] at dk; have HS2 := hid (hq2.s.say [wBar, kw] (by simp) (by simp) rfl rfl (HBd.out.mono (by simp only [List.length_append, List.length_cons, List.length_nil]; omega))); obtain ⟨rfl, -⟩ := id hs; clear hs hq2 ha2 hk2)
    | (go_at_call 135; refine HS2.out.mono ?_; rintro e w3 hs; obtain ⟨wv3, hq3, ha3, hk3⟩ := HQ2.out.next hs; have HQ3 := hid hq3; have HA3 := hid (HA2.out.trans ha3 HK2.out.size); have HK3 := hid (HK2.out.next HA2.out hk3); obtain ⟨rfl, -⟩ := id hs; clear hs hq3 ha3 hk3))
  clear c16 cl0 d0 dk HS2 HK2 HA2 HQ2
  obtain ⟨d0, d16, -, d1⟩ := HQ3.out.sc2 HM.out HL.out HLv.out
  rw [HK.out] at d0
  go_wp2_with (go_at_call 56; refine (HN.out b w3 wv3 _ HLb.out.1 HLb.out.2 HQ3.out.s (HBd.out.mono (by simp only [List.length_append, List.length_cons, List.length_nil]; omega))).mono ?_; rintro e w5 hs; have HS5 := hid hs; obtain ⟨rfl, -⟩ := id hs; clear hs)
  go_end0
  rw [HR.out]
  exact SyP.of HB0.out (SyP.trans HA3.out HK3.out HS5.out)
set_option maxRecDepth 100000 in
set_option maxHeartbeats 4000000 in
theorem wstep_3 {d a : Nat} (hN : NodeP B qs wb nv d) (ha : a < d ∧ a < qs.length) (h : Ws B qs w wb nv wv ws) (hm : q ∈ qs) (hk : q.np.kind = 3) (hl : q.np.l = [(a : Int)]) (hb : (ws.length + (stepX (wd (qs.map xn) d) q.np).length) * 16 ≤ 140737488355328) : Calls Tryz.prog 102 #[dp wb, .agg q.cells.toArray] w (SyP B wb nv wv (ws ++ stepX (wd (qs.map xn) d) q.np) w) := by
  have e0 : stepX (wd (qs.map xn) d) q.np = wd (qs.map xn) d a ++ [wBar, kindL.getD 3 []] ++ (sepL (nameP q.np.names)) := by
    unfold stepX tailX lAt
    rw [if_neg (by rw [hk]; decide), if_pos hk, hk, hl]; rfl
  rw [e0] at hb
  generalize hR : ws ++ stepX (wd (qs.map xn) d) q.np = R
  have HR : Hid (R = ws ++ wd (qs.map xn) d a ++ [wBar, kindL.getD 3 []] ++ (sepL (nameP q.np.names))) := by show _ = _; rw [← hR, e0]; simp only [List.append_assoc]
  simp only [List.length_append, List.length_cons, List.length_nil, Nat.zero_add, Nat.reduceAdd] at hb
  obtain ⟨gl, ol, cl, hlv, hcl⟩ := h.lv hm (by rw [hl]; simp)
  rw [hl] at hlv hcl
  have hcl2 : (1 : Int) ≤ cl := hcl
  have hlv2 : q.lv = .slice (some ⟨gl, ol, none⟩) 1 cl := hlv
  have HBd := hid (show LeB _ from hb)
  have HN := hid hN
  have HLa := hid ha
  have HM := hid hm
  have HL := hid hl
  have HLv := hid hlv2
  have HK := hid hk
  have HQ := hid (Bq.box (q := q) h)
  have HB0 := hid (box_below (w := w) (q := q))
  generalize hW : w.alloc (.cells q.cells.toArray 44) = w1 at *
  have HW := hid hW
  obtain ⟨-, c16, cl0⟩ := HQ.out.sc1 HM.out HL.out HLv.out
  have M1 : Hid True := trivial
  obtain ⟨kw, hkw⟩ : ∃ kw, kindL.getD 3 [] = kw := ⟨_, rfl⟩
  have HKw := hid hkw
  rw [hkw] at HR
  clear hkw
  clear h hN ha hb hm hl hlv hlv2 hcl hk hR e0 hW
  go_enter Tryz.func102, Tryz.ntmps102
  go_upto_region 1 with fail
  rw [HW.out]
  go_upto_region 3 with (first
    | (go_at_call 56; clear M1; refine (HN.out a w1 wv ws HLa.out.1 HLa.out.2 HQ.out.s (HBd.out.mono (by omega))).mono ?_; rintro e w2 hs; obtain ⟨wv2, hq2, ha2, hk2⟩ := HQ.out.next hs; have HQ2 := hid hq2; have HA2 := hid ha2; have HK2 := hid hk2; have d0 := hq2.sc0 HK.out; have dk := hq2.s.g.p.kind 3 (by decide); rw [HKw.out] at dk; have HS2 := hid (hq2.s.say [wBar, kw] (by simp) (by simp) rfl rfl (HBd.out.mono (by simp only [List.length_append, List.length_cons, List.length_nil]; omega))); obtain ⟨rfl, -⟩ := id hs; clear hs hq2 ha2 hk2)
    | (go_at_call 135; refine HS2.out.mono ?_; rintro e w3 hs; obtain ⟨wv3, hq3, ha3, hk3⟩ := HQ2.out.next hs; have HQ3 := hid hq3; have HA3 := hid (HA2.out.trans ha3 HK2.out.size); have HK3 := hid (HK2.out.next HA2.out hk3); obtain ⟨rfl, -⟩ := id hs; clear hs hq3 ha3 hk3))
  clear c16 cl0 d0 dk HS2 HK2 HA2 HQ2
  have d0 := HQ3.out.sc0 HK.out
  have d17 : w3.cell? ⟨w.heap.size, 17, none⟩ = some q.nv := HQ3.out.cell (j := 17) rfl
  have HNs := hid (HQ3.out.s.q.each q HM.out).n
  obtain ⟨pn, cn, hnv, -, -⟩ := HNs.out.form
  rw [hnv] at d17 HNs
  go_wp2_with (go_at_call 142; refine (names_any HQ3.out.s.r HNs.out (HBd.out.mono (by simp only [List.length_append, List.length_cons, List.length_nil]; omega))).mono ?_; rintro e w5 hs; have HS5 := hid hs; obtain ⟨rfl, -⟩ := id hs; clear hs)
  go_end0
  rw [HR.out]
  exact SyP.of HB0.out (SyP.trans HA3.out HK3.out HS5.out)
set_option maxRecDepth 100000 in
set_option maxHeartbeats 4000000 in
theorem wstep_4 {d a : Nat} (hN : NodeP B qs wb nv d) (ha : a < d ∧ a < qs.length) (h : Ws B qs w wb nv wv ws) (hm : q ∈ qs) (ho : NxOk q) (hk : q.np.kind = 4) (hl : q.np.l = [(a : Int)]) (hb : (ws.length + (stepX (wd (qs.map xn) d) q.np).length) * 16 ≤ 140737488355328) : Calls Tryz.prog 102 #[dp wb, .agg q.cells.toArray] w (SyP B wb nv wv (ws ++ stepX (wd (qs.map xn) d) q.np) w) := by
  have e0 : stepX (wd (qs.map xn) d) q.np = wd (qs.map xn) d a ++ [wBar, kindL.getD 4 []] ++ ([Lib.itoa q.np.n]) := by
    unfold stepX tailX lAt
    rw [if_neg (by rw [hk]; decide), if_neg (by rw [hk]; decide), if_pos hk, hk, hl]; rfl
  rw [e0] at hb
  generalize hR : ws ++ stepX (wd (qs.map xn) d) q.np = R
  have HR : Hid (R = ws ++ wd (qs.map xn) d a ++ [wBar, kindL.getD 4 []] ++ ([Lib.itoa q.np.n])) := by show _ = _; rw [← hR, e0]; simp only [List.append_assoc]
  simp only [List.length_append, List.length_cons, List.length_nil, Nat.zero_add, Nat.reduceAdd] at hb
  obtain ⟨gl, ol, cl, hlv, hcl⟩ := h.lv hm (by rw [hl]; simp)
  rw [hl] at hlv hcl
  have hcl2 : (1 : Int) ≤ cl := hcl
  have hlv2 : q.lv = .slice (some ⟨gl, ol, none⟩) 1 cl := hlv
  have HBd := hid (show LeB _ from hb)
  have HN := hid hN
  have HLa := hid ha
  have HM := hid hm
  have HL := hid hl
  have HLv := hid hlv2
  have HK := hid hk
  have HO := hid ho
  have HQ := hid (Bq.box (q := q) h)
  have HB0 := hid (box_below (w := w) (q := q))
  generalize hW : w.alloc (.cells q.cells.toArray 44) = w1 at *
  have HW := hid hW
  obtain ⟨-, c16, cl0⟩ := HQ.out.sc1 HM.out HL.out HLv.out
  have M1 : Hid True := trivial
  obtain ⟨kw, hkw⟩ : ∃ kw, kindL.getD 4 [] = kw := ⟨_, rfl⟩
  have HKw := hid hkw
  rw [hkw] at HR
  clear hkw
  clear h hN ha hb hm hl hlv hlv2 hcl hk hR e0 hW ho
  go_enter Tryz.func102, Tryz.ntmps102
  go_upto_region 1 with fail
  rw [HW.out]
  go_upto_region 3 with (first
    | (go_at_call 56; clear M1; refine (HN.out a w1 wv ws HLa.out.1 HLa.out.2 HQ.out.s (HBd.out.mono (by omega))).mono ?_; rintro e w2 hs; obtain ⟨wv2, hq2, ha2, hk2⟩ := HQ.out.next hs; have HQ2 := hid hq2; have HA2 := hid ha2; have HK2 := hid hk2; have d0 := hq2.sc0 HK.out; have dk := hq2.s.g.p.kind 4 (by decide); rw [HKw.out] at dk; have HS2 := hid (hq2.s.say [wBar, kw] (by simp) (by simp) rfl rfl (HBd.out.mono (by simp only [List.length_append, List.length_cons, List.length_nil]; omega))); obtain ⟨rfl, -⟩ := id hs; clear hs hq2 ha2 hk2)
    | (go_at_call 135; refine HS2.out.mono ?_; rintro e w3 hs; obtain ⟨wv3, hq3, ha3, hk3⟩ := HQ2.out.next hs; have HQ3 := hid hq3; have HA3 := hid (HA2.out.trans ha3 HK2.out.size); have HK3 := hid (HK2.out.next HA2.out hk3); obtain ⟨rfl, -⟩ := id hs; clear hs hq3 ha3 hk3))
  clear c16 cl0 d0 dk HS2 HK2 HA2 HQ2
  have d0 := HQ3.out.sc0 HK.out
  have d2 : w3.cell? ⟨w.heap.size, 2, none⟩ = some (.int .i64 q.np.n) := HQ3.out.cell (j := 2) rfl
  go_wp2_with (first
    | (go_at_call 136; refine (itoaS HO.out.n HQ3.out.s.g).mono ?_; rintro e w4 ⟨rfl, hb4⟩; have HB4 := hid hb4; have HS4 := hid ((HQ3.out.s.on hb4).say [Lib.itoa q.np.n] (by simp) (by simp) rfl rfl (HBd.out.mono (by simp only [List.length_append, List.length_cons, List.length_nil]; omega))); clear hb4)
    | (go_at_call 135; refine HS4.out.mono ?_; rintro e w5 hs; have HS5 := hid hs; obtain ⟨rfl, -⟩ := id hs; clear hs))
  go_end0
  rw [HR.out]
  exact SyP.of HB0.out (SyP.trans HA3.out HK3.out (SyP.of HB4.out HS5.out))
set_option maxRecDepth 100000 in
set_option maxHeartbeats 4000000 in
theorem wstep_5 {d a : Nat} (hN : NodeP B qs wb nv d) (ha : a < d ∧ a < qs.length) (h : Ws B qs w wb nv wv ws) (hm : q ∈ qs) (hk : q.np.kind = 5) (hl : q.np.l = [(a : Int)]) (hb : (ws.length + (stepX (wd (qs.map xn) d) q.np).length) * 16 ≤ 140737488355328) : Calls Tryz.prog 102 #[dp wb, .agg q.cells.toArray] w (SyP B wb nv wv (ws ++ stepX (wd (qs.map xn) d) q.np) w) := by
  have e0 : stepX (wd (qs.map xn) d) q.np = wd (qs.map xn) d a ++ [wBar, kindL.getD 5 []] ++ (sepL (nameP q.np.names) ++ [wColon] ++ sepL (aggP q.np.aggs)) := by
    unfold stepX tailX lAt
    rw [if_neg (by rw [hk]; decide), if_neg (by rw [hk]; decide), if_neg (by rw [hk]; decide), if_pos hk, hk, hl]; rfl
  rw [e0] at hb
  generalize hR : ws ++ stepX (wd (qs.map xn) d) q.np = R
  have HR : Hid (R = ws ++ wd (qs.map xn) d a ++ [wBar, kindL.getD 5 []] ++ (sepL (nameP q.np.names)) ++ ([wColon]) ++ (sepL (aggP q.np.aggs))) := by show _ = _; rw [← hR, e0]; simp only [List.append_assoc]
  simp only [List.length_append, List.length_cons, List.length_nil, Nat.zero_add, Nat.reduceAdd] at hb
  obtain ⟨gl, ol, cl, hlv, hcl⟩ := h.lv hm (by rw [hl]; simp)
  rw [hl] at hlv hcl
  have hcl2 : (1 : Int) ≤ cl := hcl
  have hlv2 : q.lv = .slice (some ⟨gl, ol, none⟩) 1 cl := hlv
  have HBd := hid (show LeB _ from hb)
  have HN := hid hN
  have HLa := hid ha
  have HM := hid hm
  have HL := hid hl
  have HLv := hid hlv2
  have HK := hid hk
  have HQ := hid (Bq.box (q := q) h)
  have HB0 := hid (box_below (w := w) (q := q))
  generalize hW : w.alloc (.cells q.cells.toArray 44) = w1 at *
  have HW := hid hW
  obtain ⟨-, c16, cl0⟩ := HQ.out.sc1 HM.out HL.out HLv.out
  have M1 : Hid True := trivial
  obtain ⟨kw, hkw⟩ : ∃ kw, kindL.getD 5 [] = kw := ⟨_, rfl⟩
  have HKw := hid hkw
  rw [hkw] at HR
  clear hkw
  clear h hN ha hb hm hl hlv hlv2 hcl hk hR e0 hW
  go_enter Tryz.func102, Tryz.ntmps102
  go_upto_region 1 with fail
  rw [HW.out]
  go_upto_region 3 with (first
    | (go_at_call 56; clear M1; refine (HN.out a w1 wv ws HLa.out.1 HLa.out.2 HQ.out.s (HBd.out.mono (by omega))).mono ?_; rintro e w2 hs; obtain ⟨wv2, hq2, ha2, hk2⟩ := HQ.out.next hs; have HQ2 := hid hq2; have HA2 := hid ha2; have HK2 := hid hk2; have d0 := hq2.sc0 HK.out; have dk := hq2.s.g.p.kind 5 (by decide); rw [HKw.out] at dk; have HS2 := hid (hq2.s.say [wBar, kw] (by simp) (by simp) rfl rfl (HBd.out.mono (by simp only [List.length_append, List.length_cons, List.length_nil]; omega))); obtain ⟨rfl, -⟩ := id hs; clear hs hq2 ha2 hk2)
    | (go_at_call 135; refine HS2.out.mono ?_; rintro e w3 hs; obtain ⟨wv3, hq3, ha3, hk3⟩ := HQ2.out.next hs; have HQ3 := hid hq3; have HA3 := hid (HA2.out.trans ha3 HK2.out.size); have HK3 := hid (HK2.out.next HA2.out hk3); obtain ⟨rfl, -⟩ := id hs; clear hs hq3 ha3 hk3))
  clear c16 cl0 d0 dk HS2 HK2 HA2 HQ2
  have d0 := HQ3.out.sc0 HK.out
  have d17 : w3.cell? ⟨w.heap.size, 17, none⟩ = some q.nv := HQ3.out.cell (j := 17) rfl
  have HNs := hid (HQ3.out.s.q.each q HM.out).n
  obtain ⟨pn, cn, hnv, -, -⟩ := HNs.out.form
  rw [hnv] at d17 HNs
  obtain ⟨pg, cg, hgv, -, -⟩ := (HQ3.out.s.q.each q HM.out).g.form
  have HGv := hid hgv
  clear hgv
  go_wp2_with (first
    | (go_at_call 142; refine (names_any HQ3.out.s.r HNs.out (HBd.out.mono (by simp only [List.length_append, List.length_cons, List.length_nil]; omega))).mono ?_; rintro e w4 hs; obtain ⟨wv4, hq4, ha4, hk4⟩ := HQ3.out.next hs; have HQ4 := hid hq4; have HA4 := hid (HA3.out.trans ha4 HK3.out.size); have HK4 := hid (HK3.out.next HA3.out hk4); have HS4 := hid (hq4.s.say [wColon] (by simp) (by simp) rfl rfl (HBd.out.mono (by simp only [List.length_append, List.length_cons, List.length_nil]; omega))); obtain ⟨rfl, -⟩ := id hs; clear hs hq4 ha4 hk4)
    | (go_at_call 135; refine HS4.out.mono ?_; rintro e w5 hs; obtain ⟨wv5, hq5, ha5, hk5⟩ := HQ4.out.next hs; have HQ5 := hid hq5; have HA5 := hid (HA4.out.trans ha5 HK4.out.size); have HK5 := hid (HK4.out.next HA4.out hk5); have d18 : w5.cell? ⟨w.heap.size, 18, none⟩ = some q.gv := hq5.cell (j := 18) rfl; have HGs := hid (hq5.s.q.each q HM.out).g; rw [HGv.out] at d18 HGs; obtain ⟨rfl, -⟩ := id hs; clear hs hq5 ha5 hk5)
    | (go_at_call 143; refine (aggs_any HQ5.out.s.r HQ5.out.s.g.p HQ5.out.s.N HGs.out (HBd.out.mono (by simp only [List.length_append, List.length_cons, List.length_nil]; omega))).mono ?_; rintro e w6 hs; have HS6 := hid hs; obtain ⟨rfl, -⟩ := id hs; clear hs))
  go_end0
  rw [HR.out]
  exact SyP.of HB0.out (SyP.trans HA5.out HK5.out HS6.out)
set_option maxRecDepth 100000 in
set_option maxHeartbeats 4000000 in
theorem wstep_6 {d a : Nat} (hN : NodeP B qs wb nv d) (ha : a < d ∧ a < qs.length) (h : Ws B qs w wb nv wv ws) (hm : q ∈ qs) (ho : NxOk q) (hk : q.np.kind = 6) (hl : q.np.l = [(a : Int)]) (hb : (ws.length + (stepX (wd (qs.map xn) d) q.np).length) * 16 ≤ 140737488355328) : Calls Tryz.prog 102 #[dp wb, .agg q.cells.toArray] w (SyP B wb nv wv (ws ++ stepX (wd (qs.map xn) d) q.np) w) := by
  have e0 : stepX (wd (qs.map xn) d) q.np = wd (qs.map xn) d a ++ [wBar, kindL.getD 6 []] ++ ([Lib.itoa q.np.n, wBy, q.np.s]) := by
    unfold stepX tailX lAt
    rw [if_neg (by rw [hk]; decide), if_neg (by rw [hk]; decide), if_neg (by rw [hk]; decide), if_neg (by rw [hk]; decide), if_pos hk, hk, hl]; rfl
  rw [e0] at hb
  generalize hR : ws ++ stepX (wd (qs.map xn) d) q.np = R
  have HR : Hid (R = ws ++ wd (qs.map xn) d a ++ [wBar, kindL.getD 6 []] ++ ([Lib.itoa q.np.n, wBy, q.np.s])) := by show _ = _; rw [← hR, e0]; simp only [List.append_assoc]
  simp only [List.length_append, List.length_cons, List.length_nil, Nat.zero_add, Nat.reduceAdd] at hb
  obtain ⟨gl, ol, cl, hlv, hcl⟩ := h.lv hm (by rw [hl]; simp)
  rw [hl] at hlv hcl
  have hcl2 : (1 : Int) ≤ cl := hcl
  have hlv2 : q.lv = .slice (some ⟨gl, ol, none⟩) 1 cl := hlv
  have HBd := hid (show LeB _ from hb)
  have HN := hid hN
  have HLa := hid ha
  have HM := hid hm
  have HL := hid hl
  have HLv := hid hlv2
  have HK := hid hk
  have HO := hid ho
  have HQ := hid (Bq.box (q := q) h)
  have HB0 := hid (box_below (w := w) (q := q))
  generalize hW : w.alloc (.cells q.cells.toArray 44) = w1 at *
  have HW := hid hW
  obtain ⟨-, c16, cl0⟩ := HQ.out.sc1 HM.out HL.out HLv.out
  have M1 : Hid True := trivial
  obtain ⟨kw, hkw⟩ : ∃ kw, kindL.getD 6 [] = kw := ⟨_, rfl⟩
  have HKw := hid hkw
  rw [hkw] at HR
  clear hkw
  clear h hN ha hb hm hl hlv hlv2 hcl hk hR e0 hW ho
  go_enter Tryz.func102, Tryz.ntmps102
  go_upto_region 1 with fail
  rw [HW.out]
  go_upto_region 3 with (first
    | (go_at_call 56; clear M1; refine (HN.out a w1 wv ws HLa.out.1 HLa.out.2 HQ.out.s (HBd.out.mono (by omega))).mono ?_; rintro e w2 hs; obtain ⟨wv2, hq2, ha2, hk2⟩ := HQ.out.next hs; have HQ2 := hid hq2; have HA2 := hid ha2; have HK2 := hid hk2; have d0 := hq2.sc0 HK.out; have dk := hq2.s.g.p.kind 6 (by decide); rw [HKw.out] at dk; have HS2 := hid (hq2.s.say [wBar, kw] (by simp) (by simp) rfl rfl (HBd.out.mono (by simp only [List.length_append, List.length_cons, List.length_nil]; omega))); obtain ⟨rfl, -⟩ := id hs; clear hs hq2 ha2 hk2)
    | (go_at_call 135; refine HS2.out.mono ?_; rintro e w3 hs; obtain ⟨wv3, hq3, ha3, hk3⟩ := HQ2.out.next hs; have HQ3 := hid hq3; have HA3 := hid (HA2.out.trans ha3 HK2.out.size); have HK3 := hid (HK2.out.next HA2.out hk3); obtain ⟨rfl, -⟩ := id hs; clear hs hq3 ha3 hk3))
  clear c16 cl0 d0 dk HS2 HK2 HA2 HQ2
  have d0 := HQ3.out.sc0 HK.out
  go_upto_region 15 with fail
  clear d0
  have hS3 := HQ3.out.stp
  have HQ3d := hid (HQ3.out.on (Below.refl _ _).drew)
  go_region_held3 (STp w.heap.size (.string (St q.np.s)) (.int .i64 q.np.n)) (((repeat (first | (with_reducible refine sTpD ?_) | (with_reducible refine sTpA ?_))); (with_reducible assumption)))
    (first
      | (go_at_call 136; refine (itoaS HO.out.n HQ3d.out.s.g).mono ?_; rintro e w4 ⟨rfl, hb4⟩; have HB4 := hid hb4; have HQ4 := hid (HQ3d.out.on hb4); have hS4 := HQ4.out.stp; have HS4 := hid (HQ4.out.s.say [Lib.itoa q.np.n, wBy, q.np.s] (by simp) (by simp) rfl rfl (HBd.out.mono (by simp only [List.length_append, List.length_cons, List.length_nil]; omega))); clear hb4)
      | (go_at_call 135; refine HS4.out.mono ?_; rintro e w5 hs; have HS5 := hid hs; obtain ⟨wv5, hq5, -, -⟩ := HQ4.out.next hs; have hS5 := hq5.stp; obtain ⟨rfl, -⟩ := id hs; clear hs hq5))
  all_goals
    (clear hS3 hS4
     go_wp2
     go_end0
     rw [HR.out]
     exact SyP.of HB0.out (SyP.trans HA3.out HK3.out (SyP.of ((Below.refl _ _).drew.trans HB4.out) HS5.out)))
set_option maxRecDepth 100000 in
set_option maxHeartbeats 4000000 in
theorem wstep_7 {d a b : Nat} (hN : NodeP B qs wb nv d) (ha : a < d ∧ a < qs.length) (hb' : b < d ∧ b < qs.length) (h : Ws B qs w wb nv wv ws) (hm : q ∈ qs) (hk : q.np.kind = 7) (hl : q.np.l = [(a : Int), (b : Int)]) (hb : (ws.length + (stepX (wd (qs.map xn) d) q.np).length) * 16 ≤ 140737488355328) : Calls Tryz.prog 102 #[dp wb, .agg q.cells.toArray] w (SyP B wb nv wv (ws ++ stepX (wd (qs.map xn) d) q.np) w) := by
  have e0 : stepX (wd (qs.map xn) d) q.np = wd (qs.map xn) d a ++ [wBar, kindL.getD 7 []] ++ (inB ((wd (qs.map xn) d) b)) := by
    unfold stepX tailX lAt
    rw [if_neg (by rw [hk]; decide), if_neg (by rw [hk]; decide), if_neg (by rw [hk]; decide), if_neg (by rw [hk]; decide), if_neg (by rw [hk]; decide), hk, hl]; rfl
  rw [e0] at hb
  generalize hR : ws ++ stepX (wd (qs.map xn) d) q.np = R
  have HR : Hid (R = ws ++ wd (qs.map xn) d a ++ [wBar, kindL.getD 7 []] ++ (inB ((wd (qs.map xn) d) b))) := by show _ = _; rw [← hR, e0]; simp only [List.append_assoc]
  simp only [List.length_append, List.length_cons, List.length_nil, Nat.zero_add, Nat.reduceAdd] at hb
  obtain ⟨gl, ol, cl, hlv, hcl⟩ := h.lv hm (by rw [hl]; simp)
  rw [hl] at hlv hcl
  have hcl2 : (2 : Int) ≤ cl := hcl
  have hlv2 : q.lv = .slice (some ⟨gl, ol, none⟩) 2 cl := hlv
  have HBd := hid (show LeB _ from hb)
  have HN := hid hN
  have HLa := hid ha
  have HM := hid hm
  have HL := hid hl
  have HLv := hid hlv2
  have HK := hid hk
  have HLb := hid hb'
  have HQ := hid (Bq.box (q := q) h)
  have HB0 := hid (box_below (w := w) (q := q))
  generalize hW : w.alloc (.cells q.cells.toArray 44) = w1 at *
  have HW := hid hW
  obtain ⟨-, c16, cl0, -⟩ := HQ.out.sc2 HM.out HL.out HLv.out
  have M1 : Hid True := trivial
  obtain ⟨kw, hkw⟩ : ∃ kw, kindL.getD 7 [] = kw := ⟨_, rfl⟩
  have HKw := hid hkw
  rw [hkw] at HR
  clear hkw
  clear h hN ha hb' hb hm hl hlv hlv2 hcl hk hR e0 hW
  go_enter Tryz.func102, Tryz.ntmps102
  go_upto_region 1 with fail
  rw [HW.out]
  go_upto_region 3 with (first
    | (go_at_call 56; clear M1; refine (HN.out a w1 wv ws HLa.out.1 HLa.out.2 HQ.out.s (HBd.out.mono (by omega))).mono ?_; rintro e w2 hs; obtain ⟨wv2, hq2, ha2, hk2⟩ := HQ.out.next hs; have HQ2 := hid hq2; have HA2 := hid ha2; have HK2 := hid hk2; have d0 := hq2.sc0 HK.out; have dk := hq2.s.g.p.kind 7 (by decide); rw [HKw.out] at dk; have HS2 := hid (hq2.s.say [wBar, kw] (by simp) (by simp) rfl rfl (HBd.out.mono (by simp only [List.length_append, List.length_cons, List.length_nil]; omega))); obtain ⟨rfl, -⟩ := id hs; clear hs hq2 ha2 hk2)
    | (go_at_call 135; refine HS2.out.mono ?_; rintro e w3 hs; obtain ⟨wv3, hq3, ha3, hk3⟩ := HQ2.out.next hs; have HQ3 := hid hq3; have HA3 := hid (HA2.out.trans ha3 HK2.out.size); have HK3 := hid (HK2.out.next HA2.out hk3); obtain ⟨rfl, -⟩ := id hs; clear hs hq3 ha3 hk3))
  clear c16 cl0 d0 dk HS2 HK2 HA2 HQ2
  obtain ⟨d0, d16, -, d1⟩ := HQ3.out.sc2 HM.out HL.out HLv.out
  rw [HK.out] at d0
  go_wp2_with (go_at_call 144; refine (wbr_any HN.out HLb.out.1 HLb.out.2 HQ3.out.s (HBd.out.mono (by simp only [List.length_append, List.length_cons, List.length_nil]; omega))).mono ?_; rintro e w5 hs; have HS5 := hid hs; obtain ⟨rfl, -⟩ := id hs; clear hs)
  go_end0
  rw [HR.out]
  exact SyP.of HB0.out (SyP.trans HA3.out HK3.out HS5.out)
set_option maxRecDepth 100000 in
set_option maxHeartbeats 4000000 in
theorem wstep_8 {d a b : Nat} (hN : NodeP B qs wb nv d) (ha : a < d ∧ a < qs.length) (hb' : b < d ∧ b < qs.length) (h : Ws B qs w wb nv wv ws) (hm : q ∈ qs) (hk : q.np.kind = 8) (hl : q.np.l = [(a : Int), (b : Int)]) (hb : (ws.length + (stepX (wd (qs.map xn) d) q.np).length) * 16 ≤ 140737488355328) : Calls Tryz.prog 102 #[dp wb, .agg q.cells.toArray] w (SyP B wb nv wv (ws ++ stepX (wd (qs.map xn) d) q.np) w) := by
  have e0 : stepX (wd (qs.map xn) d) q.np = wd (qs.map xn) d a ++ [wBar, kindL.getD 8 []] ++ (inB ((wd (qs.map xn) d) b)) := by
    unfold stepX tailX lAt
    rw [if_neg (by rw [hk]; decide), if_neg (by rw [hk]; decide), if_neg (by rw [hk]; decide), if_neg (by rw [hk]; decide), if_neg (by rw [hk]; decide), hk, hl]; rfl
  rw [e0] at hb
  generalize hR : ws ++ stepX (wd (qs.map xn) d) q.np = R
  have HR : Hid (R = ws ++ wd (qs.map xn) d a ++ [wBar, kindL.getD 8 []] ++ (inB ((wd (qs.map xn) d) b))) := by show _ = _; rw [← hR, e0]; simp only [List.append_assoc]
  simp only [List.length_append, List.length_cons, List.length_nil, Nat.zero_add, Nat.reduceAdd] at hb
  obtain ⟨gl, ol, cl, hlv, hcl⟩ := h.lv hm (by rw [hl]; simp)
  rw [hl] at hlv hcl
  have hcl2 : (2 : Int) ≤ cl := hcl
  have hlv2 : q.lv = .slice (some ⟨gl, ol, none⟩) 2 cl := hlv
  have HBd := hid (show LeB _ from hb)
  have HN := hid hN
  have HLa := hid ha
  have HM := hid hm
  have HL := hid hl
  have HLv := hid hlv2
  have HK := hid hk
  have HLb := hid hb'
  have HQ := hid (Bq.box (q := q) h)
  have HB0 := hid (box_below (w := w) (q := q))
  generalize hW : w.alloc (.cells q.cells.toArray 44) = w1 at *
  have HW := hid hW
  obtain ⟨-, c16, cl0, -⟩ := HQ.out.sc2 HM.out HL.out HLv.out
  have M1 : Hid True := trivial
  obtain ⟨kw, hkw⟩ : ∃ kw, kindL.getD 8 [] = kw := ⟨_, rfl⟩
  have HKw := hid hkw
  rw [hkw] at HR
  clear hkw
  clear h hN ha hb' hb hm hl hlv hlv2 hcl hk hR e0 hW
  go_enter Tryz.func102, Tryz.ntmps102
  go_upto_region 1 with fail
  rw [HW.out]
  go_upto_region 3 with (first
    | (go_at_call 56; clear M1; refine (HN.out a w1 wv ws HLa.out.1 HLa.out.2 HQ.out.s (HBd.out.mono (by omega))).mono ?_; rintro e w2 hs; obtain ⟨wv2, hq2, ha2, hk2⟩ := HQ.out.next hs; have HQ2 := hid hq2; have HA2 := hid ha2; have HK2 := hid hk2; have d0 := hq2.sc0 HK.out; have dk := hq2.s.g.p.kind 8 (by decide); rw [HKw.out] at dk; have HS2 := hid (hq2.s.say [wBar, kw] (by simp) (by simp) rfl rfl (HBd.out.mono (by simp only [List.length_append, List.length_cons, List.length_nil]; omega))); obtain ⟨rfl, -⟩ := id hs; clear hs hq2 ha2 hk2)
    | (go_at_call 135; refine HS2.out.mono ?_; rintro e w3 hs; obtain ⟨wv3, hq3, ha3, hk3⟩ := HQ2.out.next hs; have HQ3 := hid hq3; have HA3 := hid (HA2.out.trans ha3 HK2.out.size); have HK3 := hid (HK2.out.next HA2.out hk3); obtain ⟨rfl, -⟩ := id hs; clear hs hq3 ha3 hk3))
  clear c16 cl0 d0 dk HS2 HK2 HA2 HQ2
  obtain ⟨d0, d16, -, d1⟩ := HQ3.out.sc2 HM.out HL.out HLv.out
  rw [HK.out] at d0
  go_wp2_with (go_at_call 144; refine (wbr_any HN.out HLb.out.1 HLb.out.2 HQ3.out.s (HBd.out.mono (by simp only [List.length_append, List.length_cons, List.length_nil]; omega))).mono ?_; rintro e w5 hs; have HS5 := hid hs; obtain ⟨rfl, -⟩ := id hs; clear hs)
  go_end0
  rw [HR.out]
  exact SyP.of HB0.out (SyP.trans HA3.out HK3.out HS5.out)
end
end Go.Proofs.YtmpjmimhoikknaaGreatDoor
