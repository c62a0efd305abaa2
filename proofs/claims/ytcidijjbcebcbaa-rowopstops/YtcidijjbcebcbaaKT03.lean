/-
  The reference's Top where all is well.
-/
import Derived.Test.YtcidijjbcebcbaaKT02
import Derived.Deep.RegionHeldLaw
namespace Go.Proofs.Ytcidijjbcebcbaa.RO
open Go.RowKit Go.Joins Go.Sort

theorem tn_blk1 {w : World} {b : Nat} {v : Value} (h : w.heap[b]? = some (.cells #[v] 33 (0, 0))) : TN.SlAt TN.any TN.one 1 w (.slice (some ⟨b, 0, none⟩) 1 1) [v] := by
  refine ⟨some ⟨b, 0, none⟩, 1, rfl, ⟨Nat.le_refl _, fun e => by cases e⟩, by unfold maxLen; simp, fun _ => ⟨b, 0, rfl, ⟨trivial, by rw [List.length_singleton]; decide⟩, fun j x hj i u hu => ?_⟩⟩
  cases j with
  | succ j => simp at hj
  | zero =>
    simp at hj; subst hj
    cases i with
    | succ i => simp [TN.one] at hu
    | zero => simp [TN.one] at hu; subst hu; exact block_cell h 0
def lenAt (w : World) (N : Nat) : Nat := match w.cell? ⟨N, 1, none⟩ with | some (.slice _ n _) => n | _ => 0
theorem lenAt_is {w : World} {N n c : Nat} {a : Value} {p : Option Addr} {t : Nat} (h : w.heap[N]? = some (.cells #[a, .slice p n c] t (0, 0))) : lenAt w N = n := by
  unfold lenAt; rw [block_cell h 1]; rfl
theorem left_drop {Q : Nat → Prop} {w : World} {gl ol n cl : Nat} {xs : List Value} (h : TN.SlAt Q TN.one 1 w (.slice (some ⟨gl, ol, none⟩) n cl) xs) {m : Nat} (hm : m ≤ n) : TN.SlAt Q TN.one 1 w (.slice (if cl = m then some ⟨gl, ol, none⟩ else some ⟨gl, ol + m, none⟩) (n - m) (cl - m)) (xs.drop m) := by
  have h1 := TN.SlAt.drop h rfl m hm
  rw [Option.map_some, Addr.add_lit] at h1
  exact h1
theorem heads_one {Q : Nat → Prop} {w : World} {hs : List Value} {S : List TN.Rw} (h : TN.HeadsIn Q w hs S) (i : Nat) : (hd hs i).oneCell' = true := by
  by_cases hi : i < hs.length
  · obtain ⟨p, c, e, -⟩ := h.2 i _ _ (hd_get hi) (List.getElem?_eq_getElem (by rw [← h.1]; exact hi))
    rw [e]; rfl
  · unfold hd; rw [List.getD_eq_getElem?_getD, List.getElem?_eq_none (by omega)]; rfl
theorem one_sub {hs : List Value} {l : List Value} (h : ∀ i, (hd hs i).oneCell' = true) {q : List Nat} (hl : ∀ y ∈ l, y ∈ q.map (hd hs)) : ∀ y ∈ l, ∀ c ∈ TN.one y, c.oneCell' = true := by
  intro y hy c hc
  obtain ⟨i, -, rfl⟩ := List.mem_map.1 (hl y hy)
  simp [TN.one] at hc; subst hc; exact h i
theorem TS.start {w5 : World} {Q : Nat → Prop} {cv : Value} {plv : Option Addr} {clv p : Nat} {hs : List Value} {S : List TN.Rw} (hr : TN.SlAt Q TN.one 1 w5 (.slice plv hs.length clv) hs) (hl : hs.length = S.length) : TS w5 w5.heap.size cv hs p S ((w5.alloc (.cells #[cv, .slice plv hs.length clv] 28)).alloc (.cells #[cv, .slice none 0 0] 28)) [] (List.range S.length) (.slice none 0 0) (.slice plv hs.length clv) := by
  have hb : Below w5.heap.size w5 ((w5.alloc (.cells #[cv, .slice plv hs.length clv] 28)).alloc (.cells #[cv, .slice none 0 0] 28)) := ((Below.refl _ _).alloc (Nat.le_refl _) _).alloc (by simp) _
  refine ⟨block_on (alloc_block w5 _) ((Below.refl _ _).alloc (Nat.le_refl _) _), TN.alloc_blk2 w5 _ _, hb, TN.Own.nil _ _ _ _ _, ?_, Sel.start p S⟩
  rw [← hl, hd_range]
  have h1 := TN.SlAt.on (TN.SlAt.low hr (by decide) TN.one_len) hb
  exact h1.imp (fun b hb' => ⟨by have := hb'.2; omega, by have := hb'.2; omega, by intro e; cases e⟩)
set_option maxRecDepth 100000 in
set_option maxHeartbeats 16000000 in
theorem rtop_ok {tv : Value} {cs : List TN.Cl} {rs : List TN.Rw} {n : Int} {nm : ByteArray} {w : World} (ht : TN.TabAt w tv cs rs) (hrl : rs.length ≤ 1000000) (hck : TN.checkV cs rs = 0) (hgood : topB cs n nm = true) : Calls Try.prog 31 #[tv, .int .i64 n, .string nm] w fun e w' => ∃ v', e = .returned (.tuple #[v', .int .i64 (runE cs rs (topB cs n nm))]) ∧ FormT v' ∧ TabR (okE cs rs (topB cs n nm)) w' v' cs (topR (TN.findC cs nm).toNat n.toNat rs) ∧ Below w.heap.size w w' := by
  have hE : runE cs rs (topB cs n nm) = 0 := by unfold runE; rw [if_pos hck, hgood]; rfl
  have hO : okE cs rs (topB cs n nm) = true := by unfold okE; rw [hck, hgood]; rfl
  rw [hE, hO]
  clear hE hO
  have HLn := hid (rows_len hck)
  obtain ⟨c, rv, rfl, hc, hs, hr, hh⟩ := ht
  have HT := hid (show TN.TabAt w (.agg #[c, rv]) cs rs from ⟨c, rv, rfl, hc, hs, hr, hh⟩)
  have HC := hid hc
  have HR := hid hr
  have HH := hid hh
  have hml : hs.length ≤ 1000000 := by rw [hh.1]; exact hrl
  obtain ⟨pc, cc, rfl, -⟩ := id hc
  obtain ⟨pr, cr, rfl, -⟩ := id hr
  clear hc hr hh
  generalize hncs : cs.length = nc at *
  generalize hk : hs.length = m at *
  have HNC := hid hncs
  have HM := hid hk
  have mI : (m : Int) ≤ 1000000 := by omega
  obtain ⟨W, hW⟩ : ∃ W, W = (w.alloc (.cells #[.slice pc nc cc, .slice pr m cr] 28)).alloc (.cells #[.slice none 0 0, .slice none 0 0] 28) := ⟨_, rfl⟩
  have k0 := block_on (alloc_block w (.cells #[.slice pc nc cc, .slice pr m cr] 28)) ((Below.refl _ _).alloc (Nat.le_refl _) (.cells #[.slice none 0 0, .slice none 0 0] 28))
  have k1 := TN.alloc_blk2 w (.cells #[.slice pc nc cc, .slice pr m cr] 28) (.cells #[.slice none 0 0, .slice none 0 0] 28)
  have hb : Below w.heap.size w W := by rw [hW]; exact ((Below.refl w.heap.size w).alloc (Nat.le_refl _) _).alloc (by simp) _
  rw [← hW] at k0 k1
  have K0 := hid k0
  have K1 := hid k1
  have HB := hid hb
  have HW := hid hW
  have y0 := block_cell k0
  have HCK := hid (fun W (hb : Below w.heap.size w W) => TN.rcheck_any (HT.out.on hb))
  generalize hz : TN.checkV cs rs = z at *
  have HZ0 := hid hz
  clear hW k0 k1 hb hncs hk hz
  go_enter Try.func31, Try.ntmps31
  go_upto_region 1 with fail
  rw [← HW.out]
  clear HW
  have zb : (z != 0) = false := by simp [hck]
  go_upto_region 5 with (first
    | (go_at_call 32; refine (HCK.out W HB.out).mono ?_; rintro e w1 ⟨rfl, hb⟩; have HB1 := hid hb; have K01 := hid (block_on K0.out hb); have K11 := hid (block_on K1.out hb); have k11 := block_cell K11.out; have f11 := block_frozen K11.out; have y01 := block_cell K01.out; clear hb)
    | (go_at_call 44; refine (TN.rfind_any (nm := nm) (HC.out.on (TN.below_on HB.out HB1.out))).mono ?_; rintro e w2 ⟨rfl, hb⟩; have HB2 := hid (TN.below_on (TN.below_on HB.out HB1.out) hb); have K02 := hid (block_on K01.out hb); have K12 := hid (block_on K11.out hb); have y02 := block_cell K02.out; clear k11 f11 y01 hb))
  have k11 := block_cell K12.out
  have f11 := block_frozen K12.out
  have HZl := hid (TN.findC_lt cs nm)
  have HTB2 : Hid (topB cs n nm = decide (1 ≤ n ∧ n ≤ 1000 ∧ 0 ≤ TN.findC cs nm ∧ kdOf cs (TN.findC cs nm) ≠ 4)) := rfl
  generalize hzz : TN.findC cs nm = q at *
  have HZE := hid hzz
  have HCo := hid (HC.out.on HB2.out)
  clear hzz
  have HGD := hid (of_decide_eq_true (HTB2.out ▸ hgood))
  have c1 := HGD.out.1
  have d1 : decide (n < 1) = false := decide_eq_false (by omega)
  have c1b : ¬ n < 1 := by omega
  have c2 := HGD.out.2.1
  have d2 : decide (n > 1000) = false := decide_eq_false (by omega)
  have c2b : ¬ n > 1000 := by omega
  have c3 := HGD.out.2.2.1
  have d3 : decide (q < 0) = false := decide_eq_false (by omega)
  have c3b : ¬ q < 0 := by omega
  obtain ⟨p, hp⟩ : ∃ p : Nat, q = p := ⟨q.toNat, by omega⟩
  have HPz := hid hp
  have hpl : p < cs.length := by have := HZl.out; omega
  have hpn : (p : Int) < nc := by have := HNC.out; omega
  obtain ⟨bc, oc, rfl, cell1⟩ : ∃ b o, pc = some ⟨b, o, none⟩ ∧ w2.cell? ⟨b, o + p * 2 + 1, none⟩ = some (.int .i64 (kdOf cs q)) := by
    obtain ⟨p', c', e', -, -, hx⟩ := HCo.out
    obtain ⟨b, o, hpp, -, hj⟩ := hx (by intro e; rw [e] at hpl; simp at hpl)
    subst hpp
    cases e'
    refine ⟨b, o, rfl, ?_⟩
    have := (TN.col_cells (hj p cs[p] (List.getElem?_eq_getElem hpl))).2
    unfold kdOf
    rw [HPz.out, Int.toNat_natCast, List.getD_eq_getElem?_getD, List.getElem?_eq_getElem hpl]
    exact this
  have ncI : (nc : Int) ≤ 9223372036854775807 := by
    obtain ⟨p', c', e', -, hm, -⟩ := HCo.out
    have := HNC.out
    unfold maxLen at hm
    omega
  subst hp
  have p0 : (0 : Int) ≤ p := by omega
  have ckd := HGD.out.2.2.2
  generalize kdOf cs p = kd at *
  have c4b : (kd == 4) = false := by simp [ckd]
  obtain ⟨nn, hnn⟩ : ∃ nn : Nat, n = nn := ⟨n.toNat, by omega⟩
  subst hnn
  clear hgood hck HTB2 HGD ckd
  have HTo := hid (HT.out.on HB2.out)
  have HRo := hid (HR.out.on HB2.out)
  have HHo := hid (TN.HeadsIn.on (TN.heads_low HH.out) HB2.out)
  go_upto_region 8 with (first | (go_at_call 26; refine (TN.rcanon_q (fun b hb => Nat.lt_of_lt_of_le hb HB2.out.size) HCo.out HRo.out HHo.out).mono ?_; rintro e w5 ⟨cv, lv, hs5, rfl, hc5, hr5, hh5, hb5⟩; obtain ⟨pcv, ccv, rfl, -⟩ := id hc5; obtain ⟨plv, clv, rfl, -⟩ := id hr5; have HC5 := hid hc5; have HR5 := hid hr5; have HH5 := hid hh5; have HB5 := hid (TN.below_on HB2.out hb5); have K05 := hid (block_on K02.out hb5); have K15 := hid (block_on K12.out hb5); clear hc5 hr5 hh5 hb5 k11 f11 y02 cell1))
  have HSl : Hid ((TN.sortR rs).length = m) := hid (by rw [TN.sortR_length, ← HH.out.1]; exact HM.out)
  have HSn : Hid (∀ r ∈ TN.sortR rs, r.length = nc) := hid (fun r hr => HLn.out.2 r ((TN.sortR_perm rs).mem_iff.1 hr))
  have HS0 := hid (TS.start (p := p) (S := TN.sortR rs) (cv := .slice pcv cs.length ccv) HR5.out HH5.out.1)
  go_upto_region 9 with fail
  have HFin := hid (fun o q (h : Sel p (TN.sortR rs) o q) (h1 : o.length ≤ nn) (h2 : o.length = nn ∨ q.length = 0) => h.fin h1 h2)
  generalize TN.sortR rs = S at *
  have HNc := hid hpn
  generalize (w5.alloc (.cells #[.slice pcv cs.length ccv, .slice plv hs5.length clv] 28)).alloc (.cells #[.slice pcv cs.length ccv, .slice none 0 0] 28) = W8 at *
  have HC6 := hid ((TN.SlAt.low HC5.out (by decide) TN.cl_len).imp (fun b hb => (⟨trivial, hb.2⟩ : TN.any b ∧ b < w5.heap.size)))
  have HW5 := hid HB5.out.size
  obtain ⟨N, hN⟩ : ∃ N, w5.heap.size = N := ⟨_, rfl⟩
  have HNl := hid hN
  rw [hN] at HS0 HW5
  rw [hN]
  clear hN HC5 HR5
  have nnI : (nn : Int) ≤ 1000 := by omega
  have HH6 := hid (HH5.out.imp (fun b hb => (show b < w5.heap.size by have := HB5.out.size; omega)))
  go_loopw [] (fun wr => ∃ (o q : List Nat) (ov lv : Value), o.length ≤ nn ∧ Hid (TS w5 N (.slice pcv cs.length ccv) hs5 p S wr o q ov lv)) (fun wr => lenAt wr N)
  case atStart => exact ⟨[], _, _, _, by simp, HS0.out⟩
  case round =>
    obtain ⟨o, q, ov, lv, hon, HT⟩ := hrel
    obtain ⟨po, co, pl, cl, rfl, rfl⟩ := HT.out.form
    have hqm : q.length ≤ m := by have := HT.out.sel.len; have := HSl.out; omega
    have y10 := block_cell HT.out.t10
    have y11 := block_cell HT.out.t11
    by_cases hgo : o.length < nn ∧ 0 < q.length
    case pos =>
      have loI : (o.length : Int) < nn := by omega
      have qI : (q.length : Int) > 0 := by omega
      have q0 : (0 : Int) < q.length := by omega
      have HAW := hid (fun W (hb : Below wr.heap.size wr W) => (HT.out.on hb).at HNl.out HH6.out HSn.out (by have := HNc.out; omega) hgo.2)
      obtain ⟨gl, ol, cl', e', -⟩ := HAW.out wr (Below.refl _ _)
      cases e'
      have HRise := hid HT.out.sel.rise
      have pI : (p : Int) < nc := hpn
      obtain ⟨wo, hwo⟩ : ∃ W, W = wr := ⟨wr, rfl⟩
      subst hwo
      go_wp2_with fail
      go_loopw [12, 13] (fun bx ix wr2 => ∃ b i : Nat, bx = .int .i64 b ∧ ix = .int .i64 i ∧ i ≤ q.length ∧ 1 ≤ i ∧ Hid (Bst p S q i b) ∧ Hid (Below wo.heap.size wo wr2)) (fun _ ix _ => q.length - (intOf ix).toNat)
      case atStart => exact ⟨0, 1, rfl, rfl, by omega, by omega, Bst.one p S q, Below.refl _ _⟩
      case round =>
        obtain ⟨b, i, rfl, rfl, hi, hi1, HBst, HBw⟩ := hrel
        have z10 := block_cell (block_on HT.out.t10 HBw.out)
        by_cases hlt : i < q.length
        · have ltI : (i : Int) < q.length := by omega
          have i0 : (0 : Int) ≤ i := by omega
          have hbi := HBst.out.1
          have bI : (b : Int) < q.length := by omega
          have b0 : (0 : Int) ≤ b := by omega
          have iM : (i : Int) ≤ 1000000 := by omega
          obtain ⟨gl', ol', cl'', e', HJ⟩ := HAW.out wr HBw.out
          cases e'
          obtain ⟨bi, oi, ci, -, celli, V⟩ := HJ i hlt
          obtain ⟨bb, ob, cb, -, cellb, U⟩ := HJ b (by omega)
          have HNew := hid (fun hc => HBst.out.new hc)
          have HKeep := hid (fun hc => HBst.out.keep HRise.out hlt hc)
          clear HJ HBst
          generalize key p (row S (q.getD i 0)) = x at *
          generalize key p (row S (q.getD b 0)) = y at *
          have cc0 := TN.regrown_cell V.c0
          have c1 := TN.regrown_cell V.c1
          have c2 := TN.regrown_cell V.c2
          have c3 := TN.regrown_cell V.c3
          have c4 := TN.regrown_cell V.c4
          have c5 := TN.regrown_cell V.c5
          have c6 := TN.regrown_cell V.c6
          have c7 := TN.regrown_cell V.c7
          have c8 := TN.regrown_cell V.c8
          have c9 := TN.regrown_cell V.c9
          have c10 := TN.regrown_cell V.c10
          have d0 := TN.regrown_cell U.c0
          have d1 := TN.regrown_cell U.c1
          have d2 := TN.regrown_cell U.c2
          have d3 := TN.regrown_cell U.c3
          have d4 := TN.regrown_cell U.c4
          have d5 := TN.regrown_cell U.c5
          have d6 := TN.regrown_cell U.c6
          have d7 := TN.regrown_cell U.c7
          have d8 := TN.regrown_cell U.c8
          have d9 := TN.regrown_cell U.c9
          have d10 := TN.regrown_cell U.c10
          have zt := TN.regrown_cell (z10 1)
          replace celli := TN.regrown_cell celli
          replace cellb := TN.regrown_cell cellb
          generalize hcv : TN.cmpL x y = cv at *
          have HCV := hid hcv
          clear hcv
          by_cases hz : cv > 0
          · go_wp2_with fail
            refine wp_region_quiet_below (by kernel_rfl) (by kernel_rfl) ?_
            repeat (go_big_quiet_step (first | (go_at_call 34; exact Calls.regrown_of (TN.rcompare_is HCV.out))))
            refine wpQuiet_nil ?_
            intro _ hw'
            obtain ⟨⟨dq, osq⟩, hw''⟩ := hw'
            subst hw''
            have hbg := below_regrown wr dq osq
            go_wp2
            go_roundw
            case rel => exact ⟨i, i + 1, rfl, by go_num, by omega, by omega, HNew.out hz, TN.below_on HBw.out hbg⟩
            case measure => simp [intOf]; omega
          · go_wp2_with fail
            refine wp_region_quiet_below (by kernel_rfl) (by kernel_rfl) ?_
            repeat (go_big_quiet_step (first | (go_at_call 34; exact Calls.regrown_of (TN.rcompare_is HCV.out))))
            refine wpQuiet_nil ?_
            intro _ hw'
            obtain ⟨⟨dq, osq⟩, hw''⟩ := hw'
            subst hw''
            have hbg := below_regrown wr dq osq
            go_wp2
            go_roundw
            case rel => exact ⟨b, i + 1, rfl, by go_num, by omega, by omega, HKeep.out hz, TN.below_on HBw.out hbg⟩
            case measure => simp [intOf]; omega
        · obtain rfl : i = q.length := by omega
          have ltI : ¬ (q.length : Int) < q.length := by omega
          have zt := z10 1
          go_upto_region 16 with fail
          clear HCK HC K0 y0 K01 K02 HB HB1 K1 K11 K12 HR HH
          have HBs := hid HBst.out
          have hbq : b < q.length := HBst.out.1
          have bI : (b : Int) < q.length := by omega
          have b0 : (0 : Int) ≤ b := by omega
          have HT2 := hid ((HT.out.on HBw.out).on (Below.refl wr.heap.size wr).drew)
          obtain ⟨gl', ol', cl'', e', HJ⟩ := HAW.out wr.drew (TN.below_on HBw.out (Below.refl wr.heap.size wr).drew)
          cases e'
          obtain ⟨bb, ob, cb, hdb, cellb, -⟩ := HJ b hbq
          have HDB := hid hdb
          clear HJ HBst hdb zt z10 y10 y11
          obtain ⟨x, hx⟩ : ∃ x, q.getD b 0 = x := ⟨_, rfl⟩
          have HX := hid hx
          rw [hx] at HDB
          clear hx
          have c1 : wr.drew.cell? ⟨N, 1, none⟩ = some (.slice (some ⟨gl, ol, none⟩) q.length cl) := block_cell HT2.out.t10 1
          have c2 : wr.drew.cell? ⟨N + 1, 1, none⟩ = some (.slice po o.length co) := block_cell HT2.out.t11 1
          have hba : Below wr.drew.heap.size wr.drew (wr.drew.alloc (.cells #[.slice (some ⟨bb, ob, none⟩) nc cb] 33)) := (Below.refl _ _).alloc (Nat.le_refl _) _
          have HTa := hid (HT2.out.on hba)
          have HKa := hid (alloc_block wr.drew (.cells #[.slice (some ⟨bb, ob, none⟩) nc cb] 33))
          have c3 : (wr.drew.alloc (.cells #[.slice (some ⟨bb, ob, none⟩) nc cb] 33)).cell? ⟨N + 1, 1, none⟩ = some (.slice po o.length co) := block_cell HTa.out.t11 1
          have hbb : Below wr.heap.size wr (wr.alloc (.cells #[.slice (some ⟨bb, ob, none⟩) nc cb] 33)).drew := ((Below.refl _ _).alloc (Nat.le_refl _) _).drew
          have HTb := hid ((HT.out.on HBw.out).on hbb)
          have HKb : Hid ((wr.alloc (.cells #[.slice (some ⟨bb, ob, none⟩) nc cb] 33)).drew.heap[wr.heap.size]? = some (.cells #[.slice (some ⟨bb, ob, none⟩) nc cb] 33 (0, 0))) := hid (alloc_block wr (.cells #[.slice (some ⟨bb, ob, none⟩) nc cb] 33))
          have c4 : (wr.alloc (.cells #[.slice (some ⟨bb, ob, none⟩) nc cb] 33)).cell? ⟨N + 1, 1, none⟩ = some (.slice po o.length co) := block_cell HTb.out.t11 1
          clear hba hbb
          go_cut [] from 86 to 95 (fun wx => ∃ v4, Hid (TM w5 N (.slice pcv cs.length ccv) hs5 wx (o ++ [x]) q v4 (.slice (some ⟨gl, ol, none⟩) q.length cl)))
          case first =>
            go_region_law (first
              | (refine TN.step_app TN.elem35 TN.one_len (by intro y hy c hc; simp at hy; subst hy; simp [TN.one] at hc; subst hc; rfl) rfl (.tmp 87) (.tmp 93) rfl rfl rfl HTa.out.own (tn_blk1 HKa.out) (big1 (by have := hqm; have := HTa.out.sel.len; have := HSl.out; simp; omega)) HTa.out.size ?_; intro v4 w4 ho hb hg; rw [HDB.out.symm] at ho; have HM4 := hid (HTa.out.app ho hb hg); obtain ⟨p4, c4, e4⟩ := Own.form (show Own TN.one 1 33 (N + 2) w4 v4 _ from ho); have hl4 : (o.map (hd hs5) ++ [hd hs5 x]).length = o.length + 1 := (by simp); rw [hl4] at e4; subst e4; have k4 : w4.heap[N + 1]? = some (.cells #[.slice pcv cs.length ccv, .slice po o.length co] 28 (0, 0)) := (hb.block (N + 1) (by omega)).trans HTa.out.t11; have y4 := block_cell k4; have f4 := block_frozen k4; clear ho hb hg k4 hl4)
              | (refine TN.step_app TN.elem35 TN.one_len (by intro y hy c hc; simp at hy; subst hy; simp [TN.one] at hc; subst hc; rfl) rfl (.tmp 87) (.tmp 93) rfl rfl rfl HTb.out.own (tn_blk1 HKb.out) (big1 (by have := hqm; have := HTb.out.sel.len; have := HSl.out; simp; omega)) HTb.out.size ?_; intro v4 w4 ho hb hg; rw [HDB.out.symm] at ho; have HM4 := hid (HTb.out.app ho hb hg); obtain ⟨p4, c4, e4⟩ := Own.form (show Own TN.one 1 33 (N + 2) w4 v4 _ from ho); have hl4 : (o.map (hd hs5) ++ [hd hs5 x]).length = o.length + 1 := (by simp); rw [hl4] at e4; subst e4; have k4 : w4.heap[N + 1]? = some (.cells #[.slice pcv cs.length ccv, .slice po o.length co] 28 (0, 0)) := (hb.block (N + 1) (by omega)).trans HTb.out.t11; have y4 := block_cell k4; have f4 := block_frozen k4; clear ho hb hg k4 hl4))
            all_goals
              go_wp2_with fail
              go_meet
              case rel => exact ⟨_, HM4.out⟩
          case rest =>
            obtain ⟨v4, HM⟩ := hcut
            clear c1 c2 c3 c4 HTa HKa HTb HKb HT2 HAW HDB cellb
            obtain ⟨pcl, ccl, ecl, ⟨hqc, -⟩, -⟩ := HM.out.left
            rw [List.length_map] at ecl hqc
            cases ecl
            have bc1 : b ≤ cl := by omega
            have bq1 : b + 1 ≤ q.length := by omega
            have bq2 : (b : Int) + 1 ≤ q.length := by omega
            have bc2 : b + 1 ≤ cl := by omega
            have qcI : q.length ≤ cl := hqc
            have hbd : Below wc.heap.size wc (wc.alloc (.cells #[] 33)).drew := ((Below.refl _ _).alloc (Nat.le_refl _) _).drew
            have HBd := hid hbd
            have HOa := hid ((TN.Own.on (TN.Own.made TN.one 1 33 wc.heap.size wc (Nat.le_refl _)) (Below.refl _ _).drew : TN.Own TN.one 1 33 wc.heap.size (wc.alloc (.cells #[] 33)).drew _ _))
            have HLa := hid (TN.SlAt.on HM.out.left hbd)
            have HOn := hid (heads_one HH5.out)
            have c0 : wc.cell? ⟨N, 1, none⟩ = some (.slice (some ⟨gl, ol, none⟩) q.length cl) := block_cell HM.out.t10 1
            have c1 : (wc.alloc (.cells #[] 33)).cell? ⟨N, 1, none⟩ = some (.slice (some ⟨gl, ol, none⟩) q.length cl) := block_cell (block_on HM.out.t10 hbd) 1
            have HN1 : Hid ((([] : List Value).length + ((q.map (hd hs5)).take b).length) * TN.bsz 1 ≤ 140737488355328) := hid (big1 (by rw [List.length_take, List.length_map, List.length_nil]; omega))
            have HZ1 : Hid (wc.heap.size ≤ (wc.alloc (.cells #[] 33)).drew.heap.size) := hid (by rw [show (wc.alloc (.cells #[] 33)).drew.heap.size = wc.heap.size + 1 from World.size_alloc _ _]; omega)
            have HLb := hid (TN.SlAt.take HLa.out b (by omega))
            have HS1 := hid (one_sub HOn.out (l := (q.map (hd hs5)).take b) (q := q) (fun y hy => List.mem_of_mem_take hy))
            have HN2 : Hid ((([] ++ (q.map (hd hs5)).take b : List Value).length + ((q.map (hd hs5)).drop (b + 1)).length) * TN.bsz 1 ≤ 140737488355328) := hid (big1 (by rw [List.nil_append, List.length_take, List.length_drop, List.length_map]; omega))
            have HS2 := hid (one_sub HOn.out (l := (q.map (hd hs5)).drop (b + 1)) (q := q) (fun y hy => List.mem_of_mem_drop hy))
            have wr1 : IntKind.i64.wrap ((b : Int) + 1) = (b : Int) + 1 := by rw [IntKind.wrap_i64]; omega
            have wr2 : ((b : Int) + 1).toNat = b + 1 := by omega
            have wr3 : (0 : Int) ≤ (b : Int) + 1 := by omega
            clear hbd hqc
            go_upto_region 17 with fail
            go_region_law (first
              | (refine TN.step_app TN.elem35 TN.one_len HS2.out rfl (.tmp 101) (.tmp 106) rfl rfl rfl HO5.out HLd.out HN2.out HZ5.out ?_; intro v6 w6 ho hb hg; have HO6 := hid ho; obtain ⟨p6, c6, e6⟩ := Own.form (show Own TN.one 1 33 wc.heap.size w6 v6 _ from ho); have hl6 : ([] ++ (q.map (hd hs5)).take b ++ (q.map (hd hs5)).drop (b + 1) : List Value).length = min b q.length + (q.length - (b + 1)) := (by simp); rw [hl6] at e6; subst e6; have HB6w := hid (HB5w.out.trans hb); have y6 := block_cell (block_on HM.out.t10 HB6w.out); have f6 := block_frozen (block_on HM.out.t10 HB6w.out); clear ho hb hg hl6)
              | (refine TN.step_app TN.elem35 TN.one_len HS1.out rfl (.tmp 96) (.tmp 100) rfl rfl rfl HOa.out HLb.out HN1.out HZ1.out ?_; intro v5 wx ho hb hg; have HO5 := hid ho; have HB5w := hid (HBd.out.trans hb); have HLd := hid (left_drop (TN.SlAt.on HM.out.left HB5w.out) bq1); have HZ5 := hid HB5w.out.size; have y5 := block_cell (block_on HM.out.t10 HB5w.out) 1; clear ho hb hg))
            all_goals
              go_wp2_with fail
              have hsel := HBs.out.next HT.out.sel
              rw [HX.out] at hsel
              have hcut := HM.out.cut HB6w.out (q' := q.take b ++ q.drop (b + 1)) (by have h6 := HO6.out; rw [List.nil_append, ← List.map_take, ← List.map_drop, ← List.map_append] at h6; exact h6) (by rw [List.length_append, List.length_take, List.length_drop]; omega) hsel
              exact ⟨⟨_, _, _, _, by rw [List.length_append, List.length_singleton]; omega, hcut⟩, by rw [lenAt_is hcut.t10, lenAt_is HT.out.t10]; omega⟩
    case neg =>
      have HE : Hid (o.length = nn ∨ q.length = 0) := hid (by omega)
      have HFo := hid (HFin.out o q HT.out.sel hon HE.out)
      have HBr : Hid (Below w5.heap.size w5 wr) := hid (by rw [HNl.out]; exact HT.out.bel)
      have HCr := hid ((TN.SlAt.on HC6.out HBr.out).imp (Q' := TN.any) (fun _ _ => trivial))
      have HRr := hid (own_tn (show Own TN.one 1 33 (N + 2) wr (.slice po o.length co) _ from HT.out.own) (by rw [List.length_map]; omega))
      have HHr := hid (heads_map (TN.HeadsIn.on HH5.out HBr.out) (fun i hi => HT.out.sel.lt i (.inl hi)))
      have K1r := hid (block_on K15.out HBr.out)
      have HW0 := hid (Nat.le_trans HB5.out.size HBr.out.size)
      have HSr := hid (lt_of_block K1r.out)
      have oI : (o.length : Int) ≤ 1000 := by omega
      by_cases hlo : (o.length : Int) < nn
      · have hq0 : ¬ (q.length : Int) > 0 := by have := HE.out; omega
        go_wp2_with (first | (go_at_call 26; refine (TN.rcanon_q (fun b hb => Nat.lt_of_lt_of_le hb HW0.out) HCr.out HRr.out HHr.out).mono ?_; rintro e w3 ⟨cA, rA, hs3, rfl, hc3, hr3, hh3, hb3⟩; obtain ⟨pc3, cc3, rfl, -⟩ := id hc3; obtain ⟨pr3, cr3, rfl, -⟩ := id hr3; have HC3 := hid hc3; have HR3 := hid hr3; have HH3 := hid hh3; have HB4 := hid (TN.below_on (TN.below_on HB5.out HBr.out) hb3); have K14 := hid (block_on K1r.out hb3); have y14 := block_cell K14.out; have x14 := block_frozen K14.out; clear hc3 hr3 hh3 hb3 y10 y11))
        refine bodyPost_ret (v := .tuple #[.agg #[.slice pc3 cs.length cc3, .slice pr3 hs3.length cr3], .int .i64 0]) ?hv rfl ⟨_, rfl, ⟨_, _, _, _, _, _, rfl⟩, ?ht, TN.below_set (TN.below_set HB4.out (by omega)) (by omega)⟩
        case hv =>
          have KF := block_set (block_set K14.out 0 (.slice pc3 cs.length cc3)) 1 (.slice pr3 hs3.length cr3)
          clear y14 x14
          generalize ((w3.setCell ⟨w.heap.size + 1, 0, none⟩ (.slice pc3 cs.length cc3)).setCell ⟨w.heap.size + 1, 1, none⟩ (.slice pr3 hs3.length cr3)) = WF at KF ⊢
          have kcf := block_cell KF
          clear KF
          simp [results, Try.results31, go_sem, kcf]
        case ht =>
          rw [HZE.out, Int.toNat_natCast, Int.toNat_natCast, ← HFo.out]
          have h1 : TN.TabIn (fun b => b ≠ w.heap.size + 1) w3 (.agg #[.slice pc3 cs.length cc3, .slice pr3 hs3.length cr3]) cs (TN.sortR (o.map (row S))) := ⟨_, _, rfl, HC3.out.imp (fun b hb => by have := HSr.out; have : wr.heap.size ≤ b := hb; omega), hs3, HR3.out.imp (fun b hb => by have := HSr.out; have : wr.heap.size ≤ b := hb; omega), HH3.out.imp (fun b hb => by have : b < w.heap.size := hb; omega)⟩
          exact (TN.TabIn.set (fun b hb => hb) (TN.TabIn.set (fun b hb => hb) h1)).imp (fun _ _ => trivial)
      · have hlo2 : ¬ (o.length : Int) < nn := hlo
        go_wp2_with (first | (go_at_call 26; refine (TN.rcanon_q (fun b hb => Nat.lt_of_lt_of_le hb HW0.out) HCr.out HRr.out HHr.out).mono ?_; rintro e w3 ⟨cA, rA, hs3, rfl, hc3, hr3, hh3, hb3⟩; obtain ⟨pc3, cc3, rfl, -⟩ := id hc3; obtain ⟨pr3, cr3, rfl, -⟩ := id hr3; have HC3 := hid hc3; have HR3 := hid hr3; have HH3 := hid hh3; have HB4 := hid (TN.below_on (TN.below_on HB5.out HBr.out) hb3); have K14 := hid (block_on K1r.out hb3); have y14 := block_cell K14.out; have x14 := block_frozen K14.out; clear hc3 hr3 hh3 hb3 y10 y11))
        refine bodyPost_ret (v := .tuple #[.agg #[.slice pc3 cs.length cc3, .slice pr3 hs3.length cr3], .int .i64 0]) ?hv rfl ⟨_, rfl, ⟨_, _, _, _, _, _, rfl⟩, ?ht, TN.below_set (TN.below_set HB4.out (by omega)) (by omega)⟩
        case hv =>
          have KF := block_set (block_set K14.out 0 (.slice pc3 cs.length cc3)) 1 (.slice pr3 hs3.length cr3)
          clear y14 x14
          generalize ((w3.setCell ⟨w.heap.size + 1, 0, none⟩ (.slice pc3 cs.length cc3)).setCell ⟨w.heap.size + 1, 1, none⟩ (.slice pr3 hs3.length cr3)) = WF at KF ⊢
          have kcf := block_cell KF
          clear KF
          simp [results, Try.results31, go_sem, kcf]
        case ht =>
          rw [HZE.out, Int.toNat_natCast, Int.toNat_natCast, ← HFo.out]
          have h1 : TN.TabIn (fun b => b ≠ w.heap.size + 1) w3 (.agg #[.slice pc3 cs.length cc3, .slice pr3 hs3.length cr3]) cs (TN.sortR (o.map (row S))) := ⟨_, _, rfl, HC3.out.imp (fun b hb => by have := HSr.out; have : wr.heap.size ≤ b := hb; omega), hs3, HR3.out.imp (fun b hb => by have := HSr.out; have : wr.heap.size ≤ b := hb; omega), HH3.out.imp (fun b hb => by have : b < w.heap.size := hb; omega)⟩
          exact (TN.TabIn.set (fun b hb => hb) (TN.TabIn.set (fun b hb => hb) h1)).imp (fun _ _ => trivial)
theorem rtop_any {tv : Value} {cs : List TN.Cl} {rs : List TN.Rw} {n : Int} {nm : ByteArray} {w : World} (ht : TN.TabAt w tv cs rs) (hrl : rs.length ≤ 1000000) : Calls Try.prog 31 #[tv, .int .i64 n, .string nm] w fun e w' => ∃ v', e = .returned (.tuple #[v', .int .i64 (runE cs rs (topB cs n nm))]) ∧ FormT v' ∧ TabR (okE cs rs (topB cs n nm)) w' v' cs (topR (TN.findC cs nm).toNat n.toNat rs) ∧ Below w.heap.size w w' := by
  by_cases hck : TN.checkV cs rs = 0
  · cases hg : topB cs n nm with
    | true => have := rtop_ok ht hrl hck hg; rw [hg] at this; exact this
    | false => have := rtop_bad ht hrl hck hg; rw [hg] at this; exact this
  · exact rtop_check ht hrl hck
end Go.Proofs.Ytcidijjbcebcbaa.RO
