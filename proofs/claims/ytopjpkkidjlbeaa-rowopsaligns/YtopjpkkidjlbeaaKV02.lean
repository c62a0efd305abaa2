/-
  The reference's Align where all is well.
-/
import Derived.Test.YtopjpkkidjlbeaaKV01
namespace Go.Proofs.Ytopjpkkidjlbeaa.RO
open Go.RowKit Go.Joins Go.Sort

set_option maxRecDepth 100000 in
set_option maxHeartbeats 8000000 in
theorem ralign_ok {tv : Value} {cs : List TN.Cl} {rs : List TN.Rw} {n : Int} {w : World} (ht : TN.TabAt w tv cs rs) (hrl : rs.length ≤ 1000000) (hck : TN.checkV cs rs = 0) (hgood : alB cs n = true) (hn : InI n) (hni : NumsIn rs) : Calls Try.prog 30 #[tv, .int .i64 n] w fun e w' => ∃ v', e = .returned (.tuple #[v', .int .i64 (runE cs rs (alB cs n))]) ∧ FormT v' ∧ TabR (okE cs rs (alB cs n)) w' v' cs (TN.sortR (rs.map (alR (TN.findC cs tmB).toNat n))) ∧ Below w.heap.size w w' := by
  have hE : runE cs rs (alB cs n) = 0 := by unfold runE; rw [if_pos hck, hgood]; rfl
  have hO : okE cs rs (alB cs n) = true := by unfold okE; rw [hck, hgood]; rfl
  rw [hE, hO]
  clear hE hO
  have hpr : ∀ r ∈ rs, (TN.findC cs tmB).toNat < r.length ∧ r.length ≤ 1000000 := by
    intro r hr
    obtain ⟨q1, q2⟩ := rows_len hck
    have := q2 r hr
    have h1 := TN.findC_lt cs tmB
    have h2 : 0 ≤ TN.findC cs tmB := (of_decide_eq_true hgood).2.1
    omega
  have hwd : 1 ≤ n ∧ n ≤ 9223372036854775807 := ⟨(of_decide_eq_true hgood).1, hn.2⟩
  have HPR0 := hid hpr
  have HWD := hid hwd
  have HNI := hid hni
  clear hpr hwd hn hni
  obtain ⟨c, rv, rfl, hc, hs, hr, hh⟩ := ht
  have HT := hid (show TN.TabAt w (.agg #[c, rv]) cs rs from ⟨c, rv, rfl, hc, hs, hr, hh⟩)
  have HC := hid hc
  have HR := hid hr
  have HH := hid hh
  have hml : hs.length ≤ 1000000 := by rw [hh.1]; exact hrl
  obtain ⟨pc, cc, rfl, -⟩ := id hc
  obtain ⟨pr, cr, rfl, -⟩ := id hr
  clear hc hr hh
  generalize hncs : cs.length = nc at *
  generalize hk : hs.length = m at *
  have HNC := hid hncs
  have HM := hid hk
  have mI : (m : Int) ≤ 1000000 := by omega
  obtain ⟨W, hW⟩ : ∃ W, W = (w.alloc (.cells #[.slice pc nc cc, .slice pr m cr] 28)).alloc (.cells #[.slice none 0 0, .slice none 0 0] 28) := ⟨_, rfl⟩
  have k0 := block_on (alloc_block w (.cells #[.slice pc nc cc, .slice pr m cr] 28)) ((Below.refl _ _).alloc (Nat.le_refl _) (.cells #[.slice none 0 0, .slice none 0 0] 28))
  have k1 := TN.alloc_blk2 w (.cells #[.slice pc nc cc, .slice pr m cr] 28) (.cells #[.slice none 0 0, .slice none 0 0] 28)
  have hb : Below w.heap.size w W := by rw [hW]; exact ((Below.refl w.heap.size w).alloc (Nat.le_refl _) _).alloc (by simp) _
  rw [← hW] at k0 k1
  have K0 := hid k0
  have K1 := hid k1
  have HB := hid hb
  have HW := hid hW
  have y0 := block_cell k0
  have HCK := hid (fun W (hb : Below w.heap.size w W) => TN.rcheck_any (HT.out.on hb))
  generalize hz : TN.checkV cs rs = z at *
  have HZ0 := hid hz
  clear hW k0 k1 hb hncs hk hz
  go_enter Try.func30, Try.ntmps30
  go_upto_region 1 with fail
  rw [← HW.out]
  clear HW
  have zb : (z != 0) = false := by simp [hck]
  go_upto_region 5 with (first
    | (go_at_call 26; refine (HCK.out W HB.out).mono ?_; rintro e w1 ⟨rfl, hb⟩; have HB1 := hid hb; have K01 := hid (block_on K0.out hb); have K11 := hid (block_on K1.out hb); have k11 := block_cell K11.out; have f11 := block_frozen K11.out; have y01 := block_cell K01.out; clear hb)
    | (go_at_call 38; refine (TN.rfind_any (nm := tmB) (HC.out.on (TN.below_on HB.out HB1.out))).mono ?_; rintro e w2 ⟨rfl, hb⟩; have HB2 := hid (TN.below_on (TN.below_on HB.out HB1.out) hb); have K02 := hid (block_on K01.out hb); have K12 := hid (block_on K11.out hb); have y02 := block_cell K02.out; clear k11 f11 y01 hb))
  have k11 := block_cell K12.out
  have f11 := block_frozen K12.out
  have HZl := hid (TN.findC_lt cs tmB)
  have HTB2 : Hid (alB cs n = decide (1 ≤ n ∧ 0 ≤ TN.findC cs tmB ∧ kdOf cs (TN.findC cs tmB) = 1)) := rfl
  generalize hzz : TN.findC cs tmB = q at *
  have HZE := hid hzz
  have HCo := hid (HC.out.on HB2.out)
  clear hzz
  have c1 := HWD.out.1
  have d1 : decide (n < 1) = false := decide_eq_false (by omega)
  have c1b : ¬ n < 1 := by omega
  have c3 : 0 ≤ q := (of_decide_eq_true (HTB2.out ▸ hgood)).2.1
  have d3 : decide (q < 0) = false := decide_eq_false (by omega)
  have c3b : ¬ q < 0 := by omega
  obtain ⟨p, hp⟩ : ∃ p : Nat, q = p := ⟨q.toNat, by omega⟩
  have HPz := hid hp
  have hpl : p < cs.length := by have := HZl.out; omega
  have hpn : (p : Int) < nc := by have := HNC.out; omega
  obtain ⟨bc, oc, rfl, cell1⟩ : ∃ b o, pc = some ⟨b, o, none⟩ ∧ w2.cell? ⟨b, o + p * 2 + 1, none⟩ = some (.int .i64 (kdOf cs q)) := by
    obtain ⟨p', c', e', -, -, hx⟩ := HCo.out
    obtain ⟨b, o, hpp, -, hj⟩ := hx (by intro e; rw [e] at hpl; simp at hpl)
    subst hpp
    cases e'
    refine ⟨b, o, rfl, ?_⟩
    have := (TN.col_cells (hj p cs[p] (List.getElem?_eq_getElem hpl))).2
    unfold kdOf
    rw [HPz.out, Int.toNat_natCast, List.getD_eq_getElem?_getD, List.getElem?_eq_getElem hpl]
    exact this
  have ncI : (nc : Int) ≤ 9223372036854775807 := by
    obtain ⟨p', c', e', -, hm, -⟩ := HCo.out
    have := HNC.out
    unfold maxLen at hm
    omega
  subst hp
  have p0 : (0 : Int) ≤ p := by omega
  have ckd : kdOf cs p = 1 := (of_decide_eq_true (HTB2.out ▸ hgood)).2.2
  rw [ckd] at cell1
  clear ckd hgood hck
  obtain ⟨W3, hW3⟩ : ∃ W, W = w2.alloc (.cells #[.slice (some ⟨bc, oc, none⟩) nc cc, .slice none 0 0] 28) := ⟨_, rfl⟩
  have k2 := alloc_block w2 (.cells #[.slice (some ⟨bc, oc, none⟩) nc cc, .slice none 0 0] 28)
  have hb3 : Below w2.heap.size w2 W3 := by rw [hW3]; exact (Below.refl _ _).alloc (Nat.le_refl _) _
  have hWs : W3.heap.size = w2.heap.size + 1 := by rw [hW3]; simp
  rw [← hW3] at k2
  have K2 := hid k2
  have HW3 := hid hW3
  have HWs := hid hWs
  have HB3 := hid (TN.below_on HB2.out hb3)
  have K03 := hid (block_on K02.out hb3)
  have K13 := hid (block_on K12.out hb3)
  have HS2 := hid (lt_of_block K12.out)
  clear hW3 hWs hb3 k2 k11 f11
  go_upto_region 8 with fail
  rw [← HW3.out]
  clear HW3
  have y03 := block_cell K03.out
  obtain ⟨S, hS⟩ : ∃ S, S = w2.heap.size := ⟨_, rfl⟩
  rw [← hS] at K2 HWs HS2
  rw [← hS]
  have HSq := hid hS
  clear hS
  have HPR : Hid (∀ r ∈ rs, p < r.length ∧ r.length ≤ 1000000) := hid (by have := HPR0.out; rw [Int.toNat_natCast] at this; exact this)
  have HIN : Hid (∀ r ∈ rs, InI (key p r).n) := hid (fun r hr => HNI.out r hr _ (key_mem (HPR.out r hr).1))
  clear HPR0 HNI y02 cell1
  go_upto_region 9 with fail
  go_loopw [9] (fun x wr => ∃ k : Nat, k ≤ m ∧ x = .int .i64 k ∧ Hid (∃ v hs', wr.heap[S]? = some (.cells #[.slice (some ⟨bc, oc, none⟩) nc cc, v] 28 (0, 0)) ∧ PD.Rws (S + 1) wr v hs' ((rs.take k).map (alR p n))) ∧ Hid (Kp (fun b => b = S) W3 wr)) (fun x _ => m - (intOf x).toNat)
  case atStart => exact ⟨0, by omega, rfl, ⟨_, [], K2.out, PD.Rws.nil _ _⟩, Kp.refl _ _⟩
  case round =>
    obtain ⟨k, hk, rfl, HV, HK⟩ := hrel
    obtain ⟨v, hs', hvb, hrs⟩ := HV.out
    have hBr : Below w.heap.size w wr := HB3.out.trans (HK.out.below HB3.out.size (fun b e => by have := HS2.out; omega))
    have HBr := hid hBr
    have KV := hid hvb
    have HRs := hid hrs
    have K0r := hid (HK.out.blk K03.out (fun e => by have := HS2.out; have e' : w.heap.size = S := e; omega))
    have y0r := block_cell K0r.out
    have K1r := hid (HK.out.blk K13.out (fun e => by have := HS2.out; have e' : w.heap.size + 1 = S := e; omega))
    obtain ⟨pv, cv, rfl⟩ := hrs.own.form
    clear hvb hrs HV hBr y03
    by_cases hlt : k < m
    · have ltI : (k : Int) < m := by omega
      have k0 : (0 : Int) ≤ k := by omega
      obtain ⟨h, hh⟩ : ∃ h, hs[k]? = some h := ⟨_, List.getElem?_eq_getElem (by have := HM.out; omega)⟩
      obtain ⟨r, hrr⟩ : ∃ r, rs[k]? = some r := ⟨_, List.getElem?_eq_getElem (by have := HM.out; have := HH.out.1; omega)⟩
      have hrow := HH.out.2 k h r hh hrr
      obtain ⟨bh, oh, hpr2, cellh⟩ : ∃ b o, pr = some ⟨b, o, none⟩ ∧ wr.cell? ⟨b, o + k, none⟩ = some h := by
        obtain ⟨p', c', e', -, -, hx⟩ := HR.out.on HBr.out
        cases e'
        obtain ⟨b, o, hp, -, hj⟩ := hx (by intro e; rw [e] at hh; simp at hh)
        exact ⟨b, o, hp, by have := hj k h hh 0 h rfl; simpa using this⟩
      subst hpr2
      have HRow := hid (hrow.on HBr.out)
      obtain ⟨ph, ch, eh, -⟩ := id hrow
      subst eh
      have hmem := List.mem_of_getElem? hrr
      have HPr := hid (HPR.out r hmem)
      have HIr := hid (HIN.out r hmem)
      have HX0 := hid hrr
      have hwlr := lt_of_block KV.out
      have HLr := hid hwlr
      have hsz : ∀ O, (wr.alloc O).cell? ⟨bh, oh + k, none⟩ = some (.slice ph r.length ch) := fun O => ((Below.refl wr.heap.size wr).alloc (Nat.le_refl _) O).cell (block_lt_of_cell cellh) |>.trans cellh
      have hsy : ∀ O i, (wr.alloc O).cell? ⟨w.heap.size, i, none⟩ = wr.cell? ⟨w.heap.size, i, none⟩ := fun O i => ((Below.refl wr.heap.size wr).alloc (Nat.le_refl _) O).cell (lt_of_block K0r.out)
      clear hrow hrr hh hmem hwlr
      go_upto_region 12 with (first | (at_builtin; refine TN.app_any TN.elem48 TN.vl_len (fun x _ => TN.vl_cells x) rfl _ _ rfl rfl (TN.Own.made TN.Vl.cells 11 39 wr.heap.size wr (Nat.le_refl _)) rfl (TN.SlAt.on HRow.out ((Below.refl _ _).alloc (Nat.le_refl _) _)) (by simpa using TN.SlAt.bound HRow.out) (by simp) ?_; intro v1 w1 ho1 hb1; rw [List.nil_append] at ho1; have HO1 := hid ho1; have HB1 := hid (((Below.refl wr.heap.size wr).alloc (Nat.le_refl _) _).trans hb1); clear ho1 hb1))
      have hne : r ≠ [] := by intro e; have := HPr.out.1; subst e; simp at this
      obtain ⟨g, c3, cur, e1, hg, hgb⟩ := own_parts HO1.out hne
      subst e1
      have hRI : TN.RowIn (fun b => b = g) w1 (.slice (some ⟨g, 0, none⟩) r.length c3) r := by
        obtain ⟨q, cap, e, hc, hm, hx⟩ := TN.Own.sl HO1.out TN.vl_len (TN.SlAt.bound HRow.out)
        cases e
        refine ⟨_, _, rfl, hc, hm, fun hne => ?_⟩
        obtain ⟨b, o, e2, hQ, hj⟩ := hx hne
        cases e2
        exact ⟨g, 0, rfl, ⟨rfl, hQ.2⟩, hj⟩
      have HRI := hid hRI
      have cN : w1.cell? ⟨g, p * 11 + 1, none⟩ = some (.int .i64 (key p r).n) := by
        obtain ⟨b, o, c', e, hcell⟩ := row_at (hRI.imp fun _ _ => trivial) HPr.out.1
        cases e
        have := (TN.val_cells hcell).c1
        simpa using this
      have fz := block_frozen hgb
      have HGl := hid (lt_of_block hgb)
      have hbw1 := TN.below_on HBr.out HB1.out
      have pI : (p : Int) < r.length := by have := HPr.out.1; omega
      have rlI : (r.length : Int) ≤ 1000000 := by have := HPr.out.2; omega
      have HMul := hid (fun W => down_any HIr.out HWD.out W)
      have HSet := hid (fun m => row_set (m := m) HRI.out HPr.out.1)
      have HGE := hid hg
      have HBw1 := hid hbw1
      have HGB := hid hgb
      generalize hal : mulW (key p r).n n = z at *
      have HAL := hid hal
      generalize hkn : (key p r).n = kn at *
      have HKN := hid hkn
      clear hkn
      generalize r.length = nr at *
      clear hRI hgb hg hbw1 hne hal
      go_upto_region 13 with (first | (go_at_call 55; refine (HMul.out _).mono ?_; rintro e w5 ⟨rfl, he⟩; replace he := he.symm; subst he))
      obtain ⟨wc, hcut⟩ : ∃ W, W = w1.setCell ⟨g, p * 11 + 1, none⟩ (.int .i64 z) := ⟨_, rfl⟩
      rw [← hcut]
      have hwl : S < wr.heap.size := lt_of_block KV.out
      have hgw := HGE.out
      have hbrc : Below wr.heap.size wr wc := by rw [hcut]; exact TN.below_set HB1.out hgw
      have HBrc := hid hbrc
      have KVc := hid (block_on KV.out hbrc)
      have HRc := hid (HRs.out.on hbrc)
      have hvo : ∀ b, (Value.slice pv hs'.length cv).ownBlock = some b → b < wr.heap.size := fun b e => (HRs.out.own.at e).2
      have hvo2 : ∀ b, (Value.slice pv hs'.length cv).ownBlock = some b → S + 1 ≤ b := fun b e => (HRs.out.own.at e).1
      have hrow : TN.RowIn (fun b => b = g) wc (.slice (some ⟨g, 0, none⟩) nr c3) (alR p n r) := by
        have := HSet.out z
        rw [hcut]; unfold alR; rw [HKN.out, HAL.out]; exact this
      have hgc : g < wc.heap.size := by rw [hcut]; have := HGl.out; simpa using this
      have HX := hid (hrow.imp (Q' := fun b => S + 1 ≤ b ∧ b < wc.heap.size ∧ (Value.slice pv hs'.length cv).ownBlock ≠ some b) (fun b e => by subst e; exact ⟨by omega, hgc, fun e => by have := hvo _ e; omega⟩))
      have hsl : hs'.length ≤ 1000000 := by rw [HRs.out.len, List.length_map, List.length_take]; omega
      have hwcs : wr.heap.size ≤ wc.heap.size := HBrc.out.size
      have yv := block_cell KVc.out
      have xv := block_frozen KVc.out
      have HVO := hid hvo2
      have HTk := hid (show (rs.take (k + 1)).map (alR p n) = (rs.take k).map (alR p n) ++ [alR p n r] by rw [List.take_add_one, HX0.out]; simp)
      have HKc := hid hcut
      clear hcut hbrc hrow hgw hvo hvo2 cN fz
      go_wp2_with (first
        | (at_builtin; refine app_A PD.elem_row (fun _ => rfl) (by intro y hy c hc; simp at hy; subst hy; simp [TN.one] at hc; subst hc; rfl) rfl _ _ rfl rfl (HRc.out.own.on ((Below.refl _ _).alloc (Nat.le_refl _) (.cells #[.slice (some ⟨g, 0, none⟩) nr c3] 33))) rfl (Own.sl (Own.blk (enc := TN.one) (k := 1) (e := 33) (B := wc.heap.size) (w := wc.alloc (.cells #[.slice (some ⟨g, 0, none⟩) nr c3] 33)) (xs := [.slice (some ⟨g, 0, none⟩) nr c3]) (fun _ => rfl) (Nat.le_refl _) (alloc_block wc _) (by unfold maxLen; simp)) (fun _ => rfl)) (by simp) (by simp; omega) (by decide) (by simp; omega) ?_; intro v5 w5 ho hg5 hat; obtain ⟨p5, c5, rfl⟩ := ho.form; have HR5 := hid ((HRc.out.on ((Below.refl _ _).alloc (Nat.le_refl _) (.cells #[.slice (some ⟨g, 0, none⟩) nr c3] 33))).app (r := alR p n r) ((HX.out.on ((Below.refl _ _).alloc (Nat.le_refl _) (.cells #[.slice (some ⟨g, 0, none⟩) nr c3] 33))).imp (fun b hb => ⟨hb.1, by have := hb.2.1; simp; omega, hb.2.2⟩)) ho hg5 hat); have HK5 : Hid (Kp (fun b => (Value.slice pv hs'.length cv).ownBlock = some b) wc w5) := (Kp.alloc _ wc _).trans (Kp.grown (T := fun b => (Value.slice pv hs'.length cv).ownBlock = some b) hg5 (fun b e => e)); have KV5 := hid (HK5.out.blk KVc.out (fun e => by have := HVO.out _ e; omega)); have y5 := block_cell KV5.out; have x5 := block_frozen KV5.out; clear ho hg5 hat))
      have hks : Kp (fun b => b = S) w5 (w5.setCell ⟨S, 1, none⟩ (.slice p5 (hs'.length + 1) c5)) := Kp.set (T := fun b => b = S) rfl _
      have hlen : (hs' ++ [Value.slice (some ⟨g, 0, none⟩) nr c3]).length = hs'.length + 1 := by simp
      have hR6 := HR5.out
      rw [hlen] at hR6
      refine ⟨⟨k + 1, by omega, by go_num, ⟨_, _, block_set KV5.out 1 (.slice p5 (hs'.length + 1) c5), by rw [HTk.out]; exact hR6.kp hks (fun b e => by omega)⟩, ?_⟩, by simp [intOf]; omega⟩
      have hw := HWs.out
      exact ((HK.out.trans (Kp.of HBrc.out)).trans' HK5.out (fun b hb e => by have := HVO.out _ e; omega)).trans hks
    · obtain rfl : k = m := by omega
      have ltI : ¬ (k : Int) < k := by omega
      have yv := block_cell KV.out
      have hrl2 : rs.take k = rs := by rw [List.take_of_length_le]; rw [← HH.out.1, HM.out]; exact Nat.le_refl _
      rw [hrl2] at HRs
      have HCr := hid (HC.out.on HBr.out)
      have HSr := hid (lt_of_block K1r.out)
      have HRw := hid (own_tn HRs.out.own (by rw [HRs.out.len, List.length_map]; omega))
      have HHw : Hid (TN.HeadsIn (fun b => b ≠ w.heap.size + 1 ∧ b < wr.heap.size) wr hs' (rs.map (alR p n))) := hid ⟨HRs.out.len, fun j x r h1 h2 => (HRs.out.row j x r h1 h2).imp fun b hb => ⟨by have := HS2.out; have := hb.1; omega, hb.2.1⟩⟩
      clear hrl2
      go_wp2_with (first | (go_at_call 24; refine (TN.rcanon_q (fun b hb => hb.2) HCr.out HRw.out HHw.out).mono ?_; rintro e w3 ⟨c3, r3, hs3, rfl, hc3, hr3, hh3, hb3⟩; obtain ⟨pc3, cc3, rfl, -⟩ := id hc3; obtain ⟨pr3, cr3, rfl, -⟩ := id hr3; have HC3 := hid hc3; have HR3 := hid hr3; have HH3 := hid hh3; have HB4 := hid (TN.below_on HBr.out hb3); have K14 := hid (block_on K1r.out hb3); have y14 := block_cell K14.out; have x14 := block_frozen K14.out; clear hc3 hr3 hh3 hb3 yv y0r))
      refine bodyPost_ret (v := .tuple #[.agg #[.slice pc3 cs.length cc3, .slice pr3 hs3.length cr3], .int .i64 0]) ?hv rfl ⟨_, rfl, ⟨_, _, _, _, _, _, rfl⟩, ?ht, TN.below_set (TN.below_set HB4.out (by omega)) (by omega)⟩
      case hv =>
        have KF := block_set (block_set K14.out 0 (.slice pc3 cs.length cc3)) 1 (.slice pr3 hs3.length cr3)
        clear y14 x14
        generalize ((w3.setCell ⟨w.heap.size + 1, 0, none⟩ (.slice pc3 cs.length cc3)).setCell ⟨w.heap.size + 1, 1, none⟩ (.slice pr3 hs3.length cr3)) = WF at KF ⊢
        have kcf := block_cell KF
        clear KF
        simp [results, Try.results30, go_sem, kcf]
      case ht =>
        rw [HZE.out, Int.toNat_natCast]
        have h1 : TN.TabIn (fun b => b ≠ w.heap.size + 1) w3 (.agg #[.slice pc3 cs.length cc3, .slice pr3 hs3.length cr3]) cs (TN.sortR (rs.map (alR p n))) := ⟨_, _, rfl, HC3.out.imp (fun b hb => by have := HSr.out; have : wr.heap.size ≤ b := hb; omega), hs3, HR3.out.imp (fun b hb => by have := HSr.out; have : wr.heap.size ≤ b := hb; omega), HH3.out.imp (fun b hb => hb.1)⟩
        exact (TN.TabIn.set (fun b hb => hb) (TN.TabIn.set (fun b hb => hb) h1)).imp (fun _ _ => trivial)
theorem ralign_any {tv : Value} {cs : List TN.Cl} {rs : List TN.Rw} {n : Int} {w : World} (ht : TN.TabAt w tv cs rs) (hn : InI n) (hni : NumsIn rs) (hrl : rs.length ≤ 1000000) : Calls Try.prog 30 #[tv, .int .i64 n] w fun e w' => ∃ v', e = .returned (.tuple #[v', .int .i64 (runE cs rs (alB cs n))]) ∧ FormT v' ∧ TabR (okE cs rs (alB cs n)) w' v' cs (TN.sortR (rs.map (alR (TN.findC cs tmB).toNat n))) ∧ Below w.heap.size w w' := by
  by_cases hck : TN.checkV cs rs = 0
  · cases hg : alB cs n with
    | true => have := ralign_ok ht hrl hck hg hn hni; rw [hg] at this; exact this
    | false => have := ralign_bad ht hrl hck hg; rw [hg] at this; exact this
  · exact ralign_check ht hrl hck
end Go.Proofs.Ytopjpkkidjlbeaa.RO
