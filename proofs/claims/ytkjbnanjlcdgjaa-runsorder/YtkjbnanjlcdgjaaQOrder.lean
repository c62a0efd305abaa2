/-
  What RunsOrder returns, for any samples and any place.
-/
import Derived.Test.YtkjbnanjlcdgjaaQOMath
import Derived.Test.YtkjbnanjlcdgjaaQOd
namespace Go.Proofs.Ytkjbnanjlcdgjaa
open Go.RowKit Go.Sort Go.Shelf

set_option maxRecDepth 100000 in
set_option maxHeartbeats 8000000 in
theorem order_any {v : Value} {L : List Sp} {at' : Int} {w : World} (h : LsA w v L) (ha : -9223372036854775808 ≤ at' ∧ at' ≤ 9223372036854775807) : Calls Try.prog 4 #[v, .int .i64 at'] w fun e w' => e = .returned (.bool true) ∧ Below w.heap.size w w' := by
  obtain ⟨p, c, rfl, hcap, hx⟩ := h.sm
  have HX := hid hx
  have hml := h.ml
  have HTm := hid h.tm
  clear hx h
  generalize hn : L.length = n at *
  have HN := hid hn
  clear hn
  have M0 : Hid True := trivial
  go_enter Try.func4, Try.ntmps4
  go_wp2_with (first
    | (go_at_call 6; refine shown_any.mono ?_; rintro e w0 ⟨rfl, hb0⟩; have HB0 := hid hb0; clear hb0)
    | (have FIRST := M0; go_at_call 7; refine (new_any (P := any)).mono ?_; rintro e w1 ⟨a, rfl, hd, hb1⟩; have HD1 := hid hd; have HB1 := hid (HB0.out.trans (hb1.mono HB0.out.size)); have M1 : Hid True := trivial; clear hd hb1 FIRST M0)
    | (have FIRST := M1; go_at_call 7; refine (new_any (P := any)).mono ?_; rintro e w2 ⟨b, rfl, hd, hb2⟩; have HD2 := hid hd; have HD1' := hid (HD1.out.on hb2); have HB2 := hid (HB1.out.trans (hb2.mono HB1.out.size)); have HSz := hid (HD1.out.T_lt); clear hd hb2 FIRST M1))
  have HOd : Hid (Od w.heap.size w (w2.alloc (.cells #[] 32)) a b [] [] (.slice (some ⟨w2.heap.size, 0, none⟩) 0 0) []) := by
    have hba := (Below.refl w2.heap.size w2).alloc (Nat.le_refl _) (.cells #[] 32)
    refine ⟨_, _, _, _, [], (HD1'.out.on hba).le HB0.out.size, (HD2.out.on hba).le HB1.out.size, own_le (Own.made Sh.cells 2 32 w2.heap.size w2 (Nat.le_refl _)) HB2.out.size, HeadsA.nil w, fun k h1 h2 => ?_, fun k e h1 => ?_, fun k e h1 => ?_⟩
    · have := HSz.out k h1; have := HD2.out.T_ge k h2; omega
    · cases e; exact absurd (HD1'.out.T_lt _ h1) (Nat.lt_irrefl _)
    · cases e; exact absurd (HD2.out.T_lt _ h1) (Nat.lt_irrefl _)
  have HBo := hid (HB2.out.alloc HB2.out.size (.cells #[] 32))
  clear HD1 HD2 HD1' HB0 HB1 HB2 HSz
  generalize (w2.alloc (.cells #[] 32)) = W0 at *
  generalize w2.heap.size = o0 at *
  go_loopw [8, 9] (fun ov i wr => ∃ k : Nat, (k ≤ n ∧ k ≤ 150) ∧ i = .int .i64 k ∧ Hid (Od w.heap.size w wr a b (runL (L.take k)) [] ov (onceL (L.take k))) ∧ Hid (Below w.heap.size w wr)) (fun _ i _ => 150 - (intOf i).toNat)
  case atStart => exact ⟨0, by omega, rfl, HOd.out, HBo.out⟩
  case round =>
    obtain ⟨k, hk, rfl, HD, HB⟩ := hrel
    obtain ⟨W1, hW1⟩ : ∃ W, W = wr := ⟨wr, rfl⟩
    subst hW1
    clear HOd HBo
    have HLt : Hid ((L.take k).length ≤ 150) := by show _ ≤ _; rw [List.length_take]; omega
    have HFl := hid (Nat.le_trans (runL_len (L.take k)) HLt.out)
    by_cases hlt : k < n ∧ k < 150
    · obtain ⟨hlt, h150⟩ := hlt
      have hk' : k < L.length := by rw [HN.out]; exact hlt
      obtain ⟨s, hs⟩ : ∃ s, L[k]? = some s := ⟨L[k], List.getElem?_eq_getElem hk'⟩
      obtain ⟨g, o, kp, kc, rfl, c0, c1, hr⟩ := HX.out k s hs
      have HG := hid (block_lt_of_cell c0)
      have HS0 := hid (⟨c0, c1⟩ : K2 g (o + k * 2) s.t (.slice kp (List.length s.vs) kc) w)
      have hS0 := k2On HS0.out HG.out HB.out
      have HR := hid hr
      have HT := hid (runL_take hs)
      have HT2 := hid (onceL_take hs)
      have HOl : Hid ((onceL (L.take k)).length ≤ 150) := by show _ ≤ _; rw [once_len]; exact HFl.out
      clear hs c0 c1 hr
      generalize hns : List.length s.vs = ns at *
      clear hns
      go_upto_region 10 with fail
      go_region_held3 (K2 g (o + k * 2) s.t (.slice kp ns kc)) (((repeat (first | (with_reducible refine k2D ?_))); (with_reducible assumption)))
        (first
        | (refine step_call3 (v := dp a) (v2 := .int .i64 s.t) (v3 := .slice kp ns kc) rfl (.tmp 36) (.tmp 41) (.tmp 46) 25 3 30 rfl (by simp [Act.eval]) (by simp [Act.eval]) (by simp [Act.eval]) enters9 ?_; refine (od_add (s := s) (HD.out.on (Below.refl _ _).drew) (by have := HFl.out; omega) (HR.out.on HB.out.drew) HB.out.drew.size).mono ?_; rintro e w3 ⟨rfl, hd3, hb3⟩; rw [← HT.out] at hd3; refine ⟨_, rfl, ?_⟩; have HD3 := hid hd3; have HB3 : Hid (Below w.heap.size w w3) := HB.out.trans (((Below.refl _ _).drew).trans hb3); have hS3 := k2On HS0.out HG.out HB3.out; clear hd3 hb3 hS0))
      obtain ⟨d0, d1⟩ := hS3
      cases hc : hasT (runL (L.take k)) s.t with
      | true =>
        rw [hc, if_pos rfl] at HT2
        clear hc
        go_wp2
        go_roundw
        case rel => exact ⟨k + 1, by omega, by go_num, (by rw [HT2.out]; exact HD3.out), HB3.out⟩
        case measure => simp [intOf]; omega
      | false =>
        rw [hc, if_neg (by decide)] at HT2
        clear hc
        obtain ⟨sva, pva, svb, pvb, hs, hst⟩ := HD3.out.st
        have HSt := hid hst
        have HO := hid hst.2.2.1
        have HH := hid hst.2.2.2.1
        clear hst
        obtain ⟨p7, c7, rfl⟩ := own_formN HO.out HH.out.1
        generalize hol : (onceL (L.take k)).length = ol at *
        have HOl2 := hid hol
        clear hol
        go_wp2_with (at_builtin; refine app_P (N := 32) (B := w.heap.size) (xs := hs) (ys := [⟨s.t, .slice kp ns kc⟩]) elem32 sh_len (fun x hx => by simp at hx; subst hx; exact sh_cells rfl) rfl _ _ rfl rfl (own_kp (T := fun _ => False) HO.out (Kp.of ((Below.refl _ _).alloc (Nat.le_refl _) _)) (fun _ _ => id)) rfl (sh_sl (s := ⟨s.t, .slice kp ns kc⟩) (alloc_block _ _)) (by rw [HH.out.1, HOl2.out]; have := HOl.out; simp; omega) (by decide) (by rw [World.size_alloc]; exact Nat.le_succ_of_le HB3.out.size) ?_; intro v5 w5 hown5 hg5 hat5; obtain ⟨q1, q2⟩ := od_app HSt.out HR.out HB3.out.size hown5 hg5 hat5; have G1 := hid q1; have G2 := hid (HB3.out.trans q2); clear hown5 hg5 hat5 q1 q2)
        go_roundw
        case rel => exact ⟨k + 1, by omega, by go_num, (by rw [HT2.out]; exact G1.out), G2.out⟩
        case measure => simp [intOf]; omega
    · have HMem : Hid (∀ s ∈ runL (L.take k), -9223372036854775808 ≤ s.t ∧ s.t ≤ 9223372036854775807) := fun s hs => HTm.out s (List.mem_of_mem_take (runL_mem hs))
      have HEq := hid (fun kk => order_same (L := L.take k) (k := kk))
      have HDt := hid (once_dt (L.take k))
      have HOn := hid (once_len (L.take k))
      generalize runL (L.take k) = F at *
      generalize onceL (L.take k) = O at *
      obtain ⟨po, co, rfl⟩ := HD.out.form
      generalize hnO : O.length = nO at *
      have HNO := hid hnO
      clear hnO
      have hnO150 : nO ≤ 150 := by rw [HOn.out]; exact HFl.out
      go_upto_region 8 with fail
      go_cut [33] from 26 to 54 (fun cv wx => cv = .bool false ∧ wx = W1)
      case first =>
        rcases (show ¬ k < n ∨ (k < n ∧ ¬ k < 150) by omega) with h1 | ⟨h1, h2⟩
        · go_wp2
          go_meet
          exact ⟨rfl, rfl⟩
        · go_wp2
          go_meet
          exact ⟨by simp; omega, rfl⟩
      case rest =>
        obtain ⟨hu33, hwc⟩ := hcut
        subst hu33
        replace hwc := hwc.symm
        subst hwc
        go_upto_if 56 with fail
        go_cut [1] from 12 to 96 (fun av wx => ∃ A : Nat, av = .int .i64 A ∧ A ≤ 9223372036854775807 ∧ wx = W1)
        case first =>
          by_cases hneg : at' < 0
          · go_wp2
            go_meet
            exact ⟨(-(at' + 1)).toNat, by congr 1; omega, by omega, rfl⟩
          · go_wp2
            go_meet
            exact ⟨at'.toNat, by congr 1; omega, by omega, rfl⟩
        case rest =>
          obtain ⟨A, hu1, hA, hwc⟩ := hcut
          subst hu1
          replace hwc := hwc.symm
          subst hwc
          have HD0 : Hid (Od w.heap.size w W1 a b F (runL ((rotL O (A % nO)).take 0)) (.slice po nO co) O) := HD.out
          generalize hR : rotL O (A % nO) = R at *
          have HR := hid hR
          clear hR
          go_wp2
          go_loopw [10, 11] (fun i xv wr => ∃ j : Nat, j ≤ nO ∧ i = .int .i64 j ∧ Hid (Od w.heap.size w wr a b F (runL (R.take j)) (.slice po nO co) O) ∧ Hid (Below w.heap.size w wr)) (fun i _ _ => nO - (intOf i).toNat)
          case atStart => exact ⟨0, by omega, rfl, HD0.out, HB.out⟩
          case round =>
            obtain ⟨j, hj, rfl, HDj, HBj⟩ := hrel
            obtain ⟨W3, hW3⟩ : ∃ W, W = wr := ⟨wr, rfl⟩
            subst hW3
            by_cases hjl : j < nO
            · obtain ⟨kk, hkk⟩ : ∃ kk, kk = A % nO := ⟨_, rfl⟩
              obtain ⟨qq, hqq⟩ : ∃ qq, qq = (j + kk) % nO := ⟨_, rfl⟩
              have hk0 : kk < nO := by rw [hkk]; exact Nat.mod_lt _ (by omega)
              have hq0 : qq < nO := by rw [hqq]; exact Nat.mod_lt _ (by omega)
              have e1 : (A : Int) % (nO : Int) = (kk : Int) := by rw [hkk]; exact (Int.natCast_emod A nO).symm
              have e2 : ((j : Int) + (kk : Int)).tmod (nO : Int) = (qq : Int) := by rw [hqq, ← Int.natCast_add]; rfl
              obtain ⟨s, hs⟩ : ∃ s, O[qq]? = some s := ⟨O[qq]'(by rw [HNO.out]; exact hq0), List.getElem?_eq_getElem _⟩
              have HRj : Hid (R[j]? = some s) := by show _ = _; rw [← HR.out, rotL_get (by rw [HNO.out]; exact Nat.mod_lt _ (by omega)) (by rw [HNO.out]; exact hjl), HNO.out, ← hkk, ← hqq]; exact hs
              obtain ⟨hnc, g, o, kp, kc, hpo, d0, d1, hr⟩ := od_cells HDj.out (by rw [HNO.out]; omega) hs
              cases hpo
              have HRw := hid hr
              clear hs hr hkk hqq
              generalize hns : List.length s.vs = ns at *
              clear hns
              have HFree : Hid (hasT (runL (R.take j)) s.t = false) := by show _ = _; have := HDt.out (A % nO); rw [HR.out] at this; exact dt_free this HRj.out
              have HTk := hid (runL_take HRj.out)
              have HGl : Hid ((runL (R.take j)).length ≤ 150) := by show _ ≤ _; have h1 := runL_len (R.take j); rw [List.length_take] at h1; omega
              have hba := (Below.refl W3.heap.size W3).alloc (Nat.le_refl _) (.cells #[.int .i64 s.t, .slice kp ns kc] 32)
              have HDa := hid (HDj.out.on hba)
              have HBa := hid (HBj.out.trans (hba.mono HBj.out.size))
              clear hba
              go_wp2_with (go_at_call 9; refine (od_add (s := s) HDa.out.symm (by have := HGl.out; omega) (HRw.out.on HBa.out) HBa.out.size).mono ?_; rintro e w4 ⟨rfl, hd4, hb4⟩; rw [HFree.out]; rw [← HTk.out] at hd4; have HD4 := hid hd4.symm; have HB4 := hid (HBa.out.trans hb4); clear hd4 hb4)
              go_roundw
              case rel => exact ⟨j + 1, by omega, by go_num, HD4.out, HB4.out⟩
              case measure => simp [intOf]; omega
            · obtain rfl : j = nO := by omega
              have hRl : R.length = j := by rw [← HR.out, rotL_len, HNO.out]
              have hRF : runL (R.take j) = F := by rw [List.take_of_length_le (by omega), ← HR.out]; exact HEq.out _
              rw [hRF] at HDj
              have HAll := hid (rng_all HMem.out)
              have HFO : Hid ((F.length : Int) = (j : Int)) := by show _ = _; rw [← HOn.out]
              have hFl : F.length ≤ 150 := HFl.out
              clear hRl hRF
              have M1 : Hid True := trivial
              go_wp2_with (first
                | (have FIRST := M1; go_at_call 15; refine (range_is HDj.out.a (by have := HFl.out; omega) HAll.out).mono ?_; rintro e w5 ⟨p5, c5, rfl, hs5, hb5⟩; have HS5 := hid hs5; have HD5 := hid (HDj.out.on hb5); have HB5 := hid (HBj.out.trans (hb5.mono HBj.out.size)); have M2 : Hid True := trivial; clear hs5 hb5 FIRST M1)
                | (have FIRST := M2; go_at_call 15; refine (range_is HD5.out.b (by have := HFl.out; omega) HAll.out).mono ?_; rintro e w6 ⟨p6, c6, rfl, hs6, hb6⟩; have HS6 := hid hs6; have HS5' := hid (HS5.out.on hb6); have HD6 := hid (HD5.out.on hb6); have HB6 := hid (HB5.out.trans (hb6.mono HB5.out.size)); clear hs6 hb6 FIRST M2)
                | (go_at_call 16; refine (same_is HS5'.out HS6.out (by have := HFl.out; omega) (by have := HFl.out; omega) (decide_eq_true rfl)).mono ?_; rintro e w7 ⟨rfl, hb7⟩; have HD7 := hid (HD6.out.on hb7); have HB7 := hid (HB6.out.trans (hb7.mono HB6.out.size)); clear hb7)
                | (go_at_call 14; refine (len_is HD7.out.a (by have := HFl.out; omega) HFO.out).mono ?_; rintro e w8 ⟨rfl, hb8⟩; have HB8 := hid (HB7.out.trans (hb8.mono HB7.out.size)); clear hb8))
              go_ret
              exact ⟨rfl, HB8.out⟩
end Go.Proofs.Ytkjbnanjlcdgjaa
