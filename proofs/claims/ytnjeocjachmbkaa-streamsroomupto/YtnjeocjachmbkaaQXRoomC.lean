/-
  What StreamsRoom returns: no room.
-/
import Derived.Test.YtnjeocjachmbkaaQXRoomK
namespace Go.Proofs.Ytnjeocjachmbkaa
open Go.RowKit Go.Sort Go.Maps Go.Shelf

set_option maxRecDepth 100000 in
set_option maxHeartbeats 8000000 in
theorem room_C {v : Value} {most : Int} {L : List Sm} {w : World} (hm0 : most ≤ 0) (h : LsAt w v L) : Calls Try.prog 6 #[.int .i64 most, v] w fun e w' => e = .returned (.bool true) ∧ Below w.heap.size w w' := by
  obtain ⟨p, c, rfl, hcap, hx⟩ := h.sl
  have HX := hid hx
  have HSz := hid h.sz
  have hml := h.ml
  clear hx h
  generalize hn : L.length = n at *
  have HN := hid hn
  clear hn
  go_enter Try.func6, Try.ntmps6
  go_wp2_with (first
    | (go_at_call 12; refine shown_any.mono ?_; rintro e w0 ⟨rfl, hb0⟩; have HB0 := hid hb0; clear hb0)
    | (go_at_call 13; refine (new_any (P := any)).mono ?_; rintro e w1 ⟨b, m, rfl, hd, hb1⟩; have HD1 : Hid (∃ sv, Dk w.heap.size any w1 b most sv m []) := ⟨_, hd.le HB0.out.size⟩; have HB1 := hid (HB0.out.trans (hb1.mono HB0.out.size)); clear hd hb1))
  go_loopw [7, 8] (fun nv i wr => ∃ k : Nat, (k ≤ n ∧ k ≤ 100) ∧ i = .int .i64 k ∧ Hid (∃ sv, Dk w.heap.size any wr b most sv m (dictL most (L.take k))) ∧ Hid (Own encS 1 9 w.heap.size wr nv (namesL (L.take k))) ∧ Hid (Below w.heap.size w wr)) (fun _ i _ => 100 - (intOf i).toNat)
  case atStart => exact ⟨0, by omega, rfl, dkE_on HD1.out ((Below.refl _ _).alloc (Nat.le_refl _) _), Own.made encS 1 9 _ _ HB1.out.size, HB1.out.alloc HB1.out.size _⟩
  case round =>
    obtain ⟨k, hk, rfl, HD, HO, HB⟩ := hrel
    obtain ⟨W1, hW1⟩ : ∃ W, W = wr := ⟨wr, rfl⟩
    subst hW1
    by_cases hlt : k < n ∧ k < 100
    · obtain ⟨hlt, h100⟩ := hlt
      have hk' : k < L.length := by rw [HN.out]; exact hlt
      obtain ⟨s, hs⟩ : ∃ s, L[k]? = some s := ⟨L[k], List.getElem?_eq_getElem hk'⟩
      obtain ⟨g, o, kp, kc, rfl, c0, c1, hr⟩ := HX.out k s hs
      have hg := block_lt_of_cell c0
      have HS := hid (⟨c0, c1⟩ : K2 g (o + k * 2) s.nm (.slice kp (List.length s.ks) kc) w)
      have hS0 := k2On HS.out hg HB.out
      obtain ⟨d0, d1⟩ := hS0
      have q0 := cell_regrown d0
      have q1 := cell_regrown d1
      have HR := hid (hr.on HB.out)
      have HZ := hid (HSz.out s (List.mem_of_getElem? hs))
      have HT := hid (take_snoc hs)
      have HG := hid hg
      have HLt : Hid ((L.take k).length ≤ 99) := by show _ ≤ _; rw [List.length_take]; omega
      have HDl := hid (Nat.le_trans (dictL_len most (L.take k)) HLt.out)
      have HNl := hid (Nat.le_trans (namesL_len (L.take k)) HLt.out)
      have HRm := hid (dictL_room (M := most) (L.take (k + 1)))
      have HDS : Hid (dictL most (L.take (k + 1)) = addL most (dictL most (L.take k)) s) := by show _ = _; rw [HT.out, dictL_snoc]
      have HNS' : Hid (namesL (L.take (k + 1)) = addN (namesL (L.take k)) s.nm) := by show _ = _; rw [HT.out, namesL_snoc]
      have HDc := hid (dkE_dc HD.out)
      obtain ⟨pn, cn, rfl⟩ := own_formN HO.out rfl
      clear hs c0 c1 hr hg
      generalize hns : List.length s.ks = ns at *
      have HNS := hid hns
      clear hns
      generalize dictL most (L.take k) = F at *
      generalize hnl : namesL (L.take k) = NL at *
      generalize hNL : NL.length = nl at *
      have HNLL := hid hNL
      clear hnl hNL
      have HRg : ∀ d os, Hid (RowAt (grow (redrawn W1 d) os) (.slice kp ns kc) s.ks) := fun d os => HR.out.on (below_regrown W1 d os)
      have HDg : ∀ d os, Hid (∃ sv, Dk w.heap.size any (grow (redrawn W1 d) os) b most sv m F) := fun d os => dkE_on HD.out (below_regrown W1 d os)
      rcases add_three (M := most) HDc.out s with ⟨ev, hev, A1, A2, A3, A4⟩ | ⟨A1, A2, A3, A4⟩ | ⟨A1, A2, A3, A4⟩
      · have hFl : F.length = 0 := by have := HRm.out; rw [HDS.out, A4] at this; omega
        obtain rfl := List.eq_nil_of_length_eq_zero hFl
        clear hFl
        have HF := hid A1
        have HE := hid A2
        have HI := hid A3
        rw [A4] at HDS
        have HRm2 : Hid (((([] : List Sm)).length : Int) ≤ max 0 most) := by have := HRm.out; rw [HDS.out] at this; exact this
        clear A1 A2 A3 A4 HRm
        have hnl99 : nl ≤ 99 := HNl.out
        go_wp2_with (first | (go_at_call 19; refine (len_is (n := (0 : Int)) HD.out rfl).mono ?_; rintro e w2 ⟨rfl, hw2⟩; replace hw2 := hw2.symm; subst hw2))
        refine wp_region_quiet_below (by kernel_rfl) (by kernel_rfl) ?_
        repeat (go_big_quiet_step (first | (go_at_call 16; exact Calls.regrown_of (find_fs (HDg _ _).out (HRg _ _).out HZ.out ⟨rfl, HF.out⟩))))
        refine wpQuiet_nil ?_
        intro _ hw'
        obtain ⟨⟨dq, osq⟩, hw''⟩ := hw'
        subst hw''
        have HB2 := hid (below_regrown W1 dq osq)
        have HW2 := hid (HB.out.trans (HB2.out.mono HB.out.size))
        have HD2 := hid (dkE_on HD.out HB2.out)
        have HO2 := hid (own_kp (T := fun _ => False) HO.out (Kp.of HB2.out) (fun _ _ => id))
        have HR2 := hid (HR.out.on HB2.out)
        have hS2 := k2On HS.out HG.out HW2.out
        clear d0 d1 q0 q1 HRg HDg
        generalize grow (redrawn W1 dq) osq = W2 at *
        go_wp2_with fail
        go_region_held3 (K2 g (o + k * 2) s.nm (.slice kp ns kc)) (((repeat (first | (with_reducible refine k2D ?_))); (with_reducible assumption)))
          (first
          | (refine step_call3 (v := dp b) (v2 := .string s.nm) (v3 := .slice kp ns kc) rfl (.tmp 62) (.tmp 67) (.tmp 72) 34 9 40 rfl (by simp [Act.eval]) (by simp [Act.eval]) (by simp [Act.eval]) enters15 ?_; refine (add_fs (s := s) (l' := []) (dkE_on HD2.out (Below.refl _ _).drew) (HR2.out.on (Below.refl _ _).drew) HZ.out (by have := HDl.out; omega) HW2.out.drew.size ⟨HI.out, rfl, HE.out⟩).mono ?_; rintro e w3 ⟨rfl, hd3, hb3, hf3⟩; refine ⟨_, rfl, ?_⟩; have HD3 := hid hd3; have HB3 : Hid (Below w.heap.size W2 w3) := ((Below.refl _ _).drew).trans hb3; have HO3 := hid (own_fk HO2.out ((Fk.on (Below.refl _ _).drew).trans hf3) (by decide) (by decide)); have hS3 := k2On hS2 HG.out HB3.out; clear hd3 hb3 hf3 hS2))
        have HW3 := hid (HW2.out.trans HB3.out)
        clear hS3
        go_wp2_with (first | (go_at_call 19; refine (len_is (n := (0 : Int)) HD3.out (by simp)).mono ?_; rintro e w4 ⟨rfl, hw4⟩; replace hw4 := hw4.symm; subst hw4))
        have HSn := hid (Own.sl HO3.out encs_len (bs1 (by rw [HNLL.out]; have := HNl.out; omega)))
        have hnc : nl ≤ cn := by obtain ⟨p', c', hv', hc', -⟩ := HSn.out; rw [HNLL.out] at hc' hv'; injection hv' with _ _ h3; rw [h3]; exact hc'.1
        go_loopw [14, 15] (fun tv q w5 => ∃ (j : Nat), j ≤ nl ∧ q = .int .i64 j ∧ tv = .bool (inN (NL.take j) s.nm) ∧ Hid (Below w3.heap.size w3 w5)) (fun _ q _ => nl - (intOf q).toNat)
        case atStart => exact ⟨0, by omega, rfl, rfl, Below.refl _ _⟩
        case round =>
          obtain ⟨j, hj, rfl, rfl, HB5⟩ := hrel
          obtain ⟨w5, hw5⟩ : ∃ W, W = wr := ⟨wr, rfl⟩
          subst hw5
          by_cases hjl : j < nl
          · obtain ⟨x, hx⟩ : ∃ x, NL[j]? = some x := ⟨NL[j]'(by rw [HNLL.out]; exact hjl), List.getElem?_eq_getElem _⟩
            obtain ⟨gN, oN, hpn, t0⟩ := names_cell (SlAt.on HSn.out HB5.out) hx
            cases hpn
            obtain ⟨u0, -⟩ := k2On HS.out HG.out (HW3.out.trans (HB5.out.mono HW3.out.size))
            have HTN := hid (inN_take (nm := s.nm) hx)
            clear hx
            cases hth : inN (NL.take j) s.nm with
            | true =>
              rw [hth] at HTN
              go_wp2_with fail
              go_quiet (fail)
              go_wp2
              go_roundw
              case rel => exact ⟨j + 1, by omega, by go_num, by rw [HTN.out]; simp, below_drewN HB5.out _⟩
              case measure => simp [intOf]; omega
            | false =>
              rw [hth] at HTN
              by_cases hxe : x = s.nm
              · subst hxe
                go_wp2_with fail
                go_quiet (fail)
                go_wp2
                go_roundw
                case rel => exact ⟨j + 1, by omega, by go_num, by rw [HTN.out]; simp, below_drewN HB5.out _⟩
                case measure => simp [intOf]; omega
              · have hne : (x.toList == s.nm.toList) = false := by rw [bytes_beq]; simpa using hxe
                have HXE := hid hxe
                clear hxe
                go_wp2_with fail
                go_quiet (fail)
                go_wp2
                go_roundw
                case rel => exact ⟨j + 1, by omega, by go_num, by rw [HTN.out]; simp [HXE.out], below_drewN HB5.out _⟩
                case measure => simp [intOf]; omega
          · have hjk : j = nl := by omega
            subst hjk
            have hta : NL.take j = NL := List.take_of_length_le (by rw [HNLL.out]; exact Nat.le_refl _)
            rw [hta] at *
            have HD5 := hid (dkE_on HD3.out HB5.out)
            have HO5 := hid (own_kp (T := fun _ => False) HO3.out (Kp.of HB5.out) (fun _ _ => id))
            have HW5 := hid (HW3.out.trans (HB5.out.mono HW3.out.size))
            obtain ⟨u0, -⟩ := k2On HS.out HG.out HW5.out
            cases hth : inN NL s.nm with
            | true =>
              have HAN : Hid (addN NL s.nm = NL) := by show _ = _; unfold addN; rw [hth]; rfl
              go_wp2
              go_roundw
              case rel => exact ⟨k + 1, by omega, by go_num, by rw [HDS.out]; exact HD5.out, by rw [HNS'.out, HAN.out]; exact HO5.out, HW5.out⟩
              case measure => simp [intOf]; omega
            | false =>
              have HAN : Hid (addN NL s.nm = NL ++ [s.nm]) := by show _ = _; unfold addN; rw [hth]; rfl
              go_wp2_with (at_builtin; refine app_N elem9.N encs_len (fun x _ => encs_cells x) rfl _ _ rfl rfl (own_kp (T := fun _ => False) HO5.out (Kp.of ((Below.refl _ _).alloc (Nat.le_refl _) _)) (fun _ _ => id)) rfl str1 (bs1 (by rw [HNLL.out]; have := HNl.out; simp; omega)) (by decide) (by have := HW5.out.size; simp; omega) ?_; intro v6 w6 hown6 hg6)
              have hoa := own_kp (T := fun _ => False) HO5.out (Kp.of ((Below.refl w5.heap.size w5).alloc (Nat.le_refl _) (.cells #[.string s.nm] 9))) (fun _ _ => id)
              go_roundw
              case rel => exact ⟨k + 1, by omega, by go_num, by rw [HDS.out]; exact dkE_beside (dkE_on HD5.out ((Below.refl _ _).alloc (Nat.le_refl _) _)) hoa hg6 (by decide) (by decide) (by decide), by rw [HNS'.out, HAN.out]; exact hown6, HW5.out.trans (((Below.refl _ _).alloc HW5.out.size _).trans (own_below hoa hg6 (by have := HW5.out.size; simp; omega)))⟩
              case measure => simp [intOf]; omega
      · have hFl : F.length = 0 := by have := HRm.out; rw [HDS.out, A4] at this; omega
        obtain rfl := List.eq_nil_of_length_eq_zero hFl
        simp [memS] at A1
      · exfalso
        have := HRm.out
        rw [HDS.out, A4] at this
        simp only [List.length_append, List.length_cons, List.length_nil] at this
        omega
    · obtain ⟨K0, hK0⟩ : ∃ K0, K0 = k := ⟨k, rfl⟩
      subst hK0
      rcases (show ¬ K0 < n ∨ (K0 < n ∧ ¬ K0 < 100) by omega) with h1 | ⟨h1, h2⟩
      all_goals
        have HKA : Hid ((L.take K0).length ≤ 100) := by show _ ≤ _; rw [List.length_take]; omega
        have hF100 := Nat.le_trans (dictL_len most (L.take K0)) HKA.out
        have hN100 := Nat.le_trans (namesL_len (L.take K0)) HKA.out
        have HNd := hid (namesL_nodup (L.take K0))
        have HCov : Hid (∀ s ∈ dictL most (L.take K0), s.nm ∈ namesL (L.take K0)) := fun s hs => namesL_mem (dictL_sub hs)
        generalize dictL most (L.take K0) = F at *
        generalize namesL (L.take K0) = NL at *
        have HSn := hid (Own.sl HO.out encs_len (bs1 (by omega)))
        obtain ⟨pn, cn, rfl⟩ := own_formN HO.out rfl
        generalize hNL : NL.length = nl at *
        have HNLL := hid hNL
        clear hNL HO
        have hnc : nl ≤ cn := by obtain ⟨p', c', hv', hc', -⟩ := HSn.out; rw [HNLL.out] at hc' hv'; injection hv' with _ _ h3; rw [h3]; exact hc'.1
        have HSum := hid (sumN_le HNd.out HCov.out)
        have HAll := hid (sumN_all HNd.out HCov.out)
        go_wp2
        go_loopw [16, 17] (fun tv q w4 => ∃ j : Nat, j ≤ nl ∧ q = .int .i64 j ∧ tv = .int .i64 (sumN F (NL.take j)) ∧ Hid (Below W1.heap.size W1 w4)) (fun _ q _ => nl - (intOf q).toNat)
        case atStart => exact ⟨0, by omega, rfl, rfl, Below.refl _ _⟩
        case round =>
          obtain ⟨j, hj, rfl, rfl, HB4⟩ := hrel
          obtain ⟨w4, hw4⟩ : ∃ W, W = wr := ⟨wr, rfl⟩
          subst hw4
          have hsum := HSum.out j
          by_cases hjl : j < nl
          · obtain ⟨x, hx⟩ : ∃ x, NL[j]? = some x := ⟨NL[j]'(by rw [HNLL.out]; exact hjl), List.getElem?_eq_getElem _⟩
            obtain ⟨gN, oN, hpn, t0⟩ := names_cell (SlAt.on HSn.out HB4.out) hx
            cases hpn
            have HSS : Hid (sumN F (NL.take (j + 1)) = sumN F (NL.take j) + (ofL x 0 F).length) := by show _ = _; rw [List.take_add_one, hx]; exact sumN_snoc F _ x
            have hsum2 := HSum.out (j + 1)
            rw [HSS.out] at hsum2
            clear hx
            have HD4 := hid (dkE_on HD.out HB4.out)
            have HLo := hid (Nat.le_trans (ofL_len x 0 F) hF100)
            generalize sumN F (NL.take j) = sj at *
            go_wp2_with (go_at_call 20; refine (of_is (nm := x) HD4.out (by omega) rfl).mono ?_; rintro e w5 ⟨p20, c20, rfl, hi, hb5⟩; have HI := hid hi; have HB5 := hid hb5; have HD5 := hid (dkE_on HD4.out hb5); have t1 := cell_onB t0 hb5; clear hi hb5 t0)
            generalize hlo : (ofL x 0 F).length = lo at *
            have HLO := hid hlo
            have hcI : lo ≤ c20 := by obtain ⟨p', c', hv', hc', -⟩ := HI.out; rw [hlo] at hc' hv'; injection hv' with _ _ h3; rw [h3]; exact hc'.1
            clear hlo
            have hlo100 : lo ≤ 100 := HLo.out
            go_loopw [19] (fun q w6 => ∃ i : Nat, i ≤ lo ∧ q = .int .i64 i ∧ Hid (Below w5.heap.size w5 w6)) (fun q _ => lo - (intOf q).toNat)
            case atStart => exact ⟨0, by omega, rfl, Below.refl _ _⟩
            case round =>
              obtain ⟨i, hi, rfl, HB6⟩ := hrel
              obtain ⟨w6, hw6⟩ : ∃ W, W = wr := ⟨wr, rfl⟩
              subst hw6
              by_cases hil : i < lo
              · obtain ⟨y, hy⟩ : ∃ y, (ofL x 0 F)[i]? = some y := ⟨(ofL x 0 F)[i]'(by rw [HLO.out]; exact hil), List.getElem?_eq_getElem _⟩
                obtain ⟨yk, rfl, s, hs, hsn⟩ := ofL_get hy
                rw [Nat.zero_add] at hy
                obtain ⟨gI, oI, hpi, e0⟩ := ints_cell (HI.out.on HB6.out) hy
                cases hpi
                have hkey := keyS_in hs
                have HKy := hid hkey
                have HD6 := hid (dkE_on HD5.out HB6.out)
                have t2 := cell_onB t1 HB6.out
                subst hsn
                have HY := hid hy
                clear hs hkey hy
                cases i with
                | zero =>
                  rw [Nat.add_zero] at e0
                  go_wp2_with (go_at_call 22; refine (keys_is HD6.out (by omega) HKy.out).mono ?_; rintro e w7 ⟨p22, c22, rfl, -, hb7⟩; have HB7 := hid (HB6.out.trans (hb7.mono HB6.out.size)); have t3 := cell_onB t2 hb7; clear hb7 e0 t2)
                  go_quiet (fail)
                  go_wp2
                  go_roundw
                  case rel => exact ⟨0 + 1, by omega, by go_num, below_drewN HB7.out _⟩
                  case measure => simp [intOf]; omega
                | succ i =>
                  obtain ⟨z, hz⟩ : ∃ z, (ofL s.nm 0 F)[i]? = some z := ⟨(ofL s.nm 0 F)[i]'(by rw [HLO.out]; omega), List.getElem?_eq_getElem _⟩
                  have hzy := ofL_up hz HY.out
                  obtain ⟨gJ, oJ, hpj, e1⟩ := ints_cell (HI.out.on HB6.out) hz
                  cases hpj
                  clear hz
                  go_wp2_with (go_at_call 22; refine (keys_is HD6.out (by omega) HKy.out).mono ?_; rintro e w7 ⟨p22, c22, rfl, -, hb7⟩; have HB7 := hid (HB6.out.trans (hb7.mono HB6.out.size)); have t3 := cell_onB t2 hb7; have e2 := cell_onB e0 hb7; have e3 := cell_onB e1 hb7; clear hb7 e0 e1 t2)
                  go_quiet (fail)
                  go_wp2
                  go_roundw
                  case rel => exact ⟨i + 1 + 1, by omega, by go_num, below_drewN HB7.out _⟩
                  case measure => simp [intOf]; omega
              · have hil' : i = lo := by omega
                subst hil'
                go_wp2
                go_roundw
                case rel => exact ⟨j + 1, by omega, by go_num, by rw [HSS.out]; go_num, HB4.out.trans ((HB5.out.trans (HB6.out.mono HB5.out.size)).mono HB4.out.size)⟩
                case measure => simp [intOf]; omega
          · have hjk : j = nl := by omega
            subst hjk
            have hta : NL.take j = NL := List.take_of_length_le (by rw [HNLL.out]; exact Nat.le_refl _)
            rw [hta] at *
            have HD4 := hid (dkE_on HD.out HB4.out)
            have HAll2 := hid HAll.out
            go_wp2_with (go_at_call 19; refine (len_is (n := (sumN F NL : Int)) HD4.out (by rw [HAll2.out])).mono ?_; rintro e w5 ⟨rfl, hw5⟩; replace hw5 := hw5.symm; subst hw5)
            go_ret
            exact ⟨rfl, HB.out.trans (HB4.out.mono HB.out.size)⟩
end Go.Proofs.Ytnjeocjachmbkaa
