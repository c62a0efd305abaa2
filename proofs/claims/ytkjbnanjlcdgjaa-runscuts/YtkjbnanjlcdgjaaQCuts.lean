/-
  What RunsCuts returns, for any samples and any two moments.
-/
import Derived.Test.YtkjbnanjlcdgjaaQLaw
namespace Go.Proofs.Ytkjbnanjlcdgjaa
open Go.RowKit Go.Sort Go.Shelf

theorem cut_eq {F : List Sp} (hu : Up F) {a m z : Int} (h1 : a ≤ m) (h2 : m < z ∨ m = a) (h3 : a ≤ z) : (m < z → rngS F a z = rngS F a m ++ rngS F (m + 1) z) ∧ (¬ m < z → rngS F a z = rngS F a m) := by
  refine ⟨fun h => rng_cut hu h1 h, fun h => ?_⟩
  have : m = z := by omega
  rw [this]
theorem rng_get {F : List Sp} (hu : Up F) {a z : Int} {j : Nat} {s : Sp} (h : (rngS F a z)[j]? = some s) : getT F s.t = s.vs ∧ hasT F s.t = true := by
  have hm := (rng_mem.1 (List.mem_of_getElem? h)).1
  have ht : hasT F s.t = true := hasT_iff.2 ⟨s, hm, rfl⟩
  obtain ⟨x, hx, e, hg⟩ := hasT_pos hu ht
  obtain ⟨k, hk, rfl⟩ := List.getElem_of_mem hm
  have hk' := List.getElem?_eq_getElem hk
  have hxe : x = F[k] := by
    by_cases e1 : posT (F[k]).t F < k
    · have := up_lt hu e1 hx hk'; omega
    · by_cases e2 : k < posT (F[k]).t F
      · have := up_lt hu e2 hk' hx; omega
      · have e3 : posT (F[k]).t F = k := by omega
        rw [e3, hk'] at hx; cases hx; rfl
  rw [← hxe] at hg ⊢
  exact ⟨by rw [hxe] at hg ⊢; exact hg, by rw [hxe]; exact ht⟩
set_option maxRecDepth 100000 in
set_option maxHeartbeats 8000000 in
theorem cuts_any {v : Value} {L : List Sp} {a z : Int} {w : World} (h : LsA w v L) (ha : -9223372036854775808 ≤ a ∧ a ≤ 9223372036854775807) (hz : -9223372036854775808 ≤ z ∧ z ≤ 9223372036854775807) : Calls Try.prog 5 #[v, .int .i64 a, .int .i64 z] w fun e w' => e = .returned (.bool true) ∧ Below w.heap.size w w' := by
  obtain ⟨p, c, rfl, hcap, hx⟩ := h.sm
  have HX := hid hx
  have hml := h.ml
  clear hx h
  generalize hn : L.length = n at *
  have HN := hid hn
  clear hn
  go_enter Try.func5, Try.ntmps5
  go_wp2_with (first
    | (go_at_call 6; refine shown_any.mono ?_; rintro e w0 ⟨rfl, hb0⟩; have HB0 := hid hb0; clear hb0)
    | (go_at_call 7; refine (new_any (P := any)).mono ?_; rintro e w1 ⟨b, rfl, hd, hb1⟩; have HD1 : Hid (RkE w.heap.size w1 b []) := ⟨_, _, hd.le HB0.out.size⟩; have HB1 := hid (HB0.out.trans (hb1.mono HB0.out.size)); clear hd hb1))
  go_loopw [9] (fun i wr => ∃ k : Nat, (k ≤ n ∧ k ≤ 150) ∧ i = .int .i64 k ∧ Hid (RkE w.heap.size wr b (runL (L.take k))) ∧ Hid (Below w.heap.size w wr)) (fun i _ => 150 - (intOf i).toNat)
  case atStart => exact ⟨0, by omega, rfl, HD1.out, HB1.out⟩
  case round =>
    obtain ⟨k, hk, rfl, HD, HB⟩ := hrel
    obtain ⟨W1, hW1⟩ : ∃ W, W = wr := ⟨wr, rfl⟩
    subst hW1
    clear HD1 HB0 HB1
    have HLt : Hid ((L.take k).length ≤ 150) := by show _ ≤ _; rw [List.length_take]; omega
    have HFl := hid (Nat.le_trans (runL_len (L.take k)) HLt.out)
    by_cases hlt : k < n ∧ k < 150
    · obtain ⟨hlt, h150⟩ := hlt
      have hk' : k < L.length := by rw [HN.out]; exact hlt
      obtain ⟨s, hs⟩ : ∃ s, L[k]? = some s := ⟨L[k], List.getElem?_eq_getElem hk'⟩
      obtain ⟨g, o, kp, kc, rfl, c0, c1, hr⟩ := HX.out k s hs
      have HG := hid (block_lt_of_cell c0)
      have hS0 := k2On (⟨c0, c1⟩ : K2 g (o + k * 2) s.t (.slice kp (List.length s.vs) kc) w) HG.out HB.out
      have HR := hid hr
      have HT := hid (runL_take hs)
      clear hs c0 c1 hr
      generalize hns : List.length s.vs = ns at *
      clear hns
      go_upto_region 8 with fail
      go_region_held3 (K2 g (o + k * 2) s.t (.slice kp ns kc)) (((repeat (first | (with_reducible refine k2D ?_))); (with_reducible assumption)))
        (first
        | (refine step_call3 (v := dp b) (v2 := .int .i64 s.t) (v3 := .slice kp ns kc) rfl (.tmp 36) (.tmp 41) (.tmp 46) 25 3 30 rfl (by simp [Act.eval]) (by simp [Act.eval]) (by simp [Act.eval]) enters9 ?_; refine (add_is (s := s) (l' := runL (L.take (k + 1))) (rkE_on HD.out (Below.refl _ _).drew) (by have := HFl.out; omega) (HR.out.on HB.out.drew) HB.out.drew.size ⟨HT.out.symm, rfl⟩).mono ?_; rintro e w3 ⟨rfl, hd3, hb3⟩; refine ⟨_, rfl, ?_⟩; have HD3 := hid hd3; have HB3 : Hid (Below w.heap.size W1 w3) := ((Below.refl _ _).drew).trans hb3; have hS3 := k2On hS0 HG.out HB3.out; clear hd3 hb3 hS0))
      clear hS3
      go_wp2
      go_roundw
      case rel => exact ⟨k + 1, by omega, by go_num, HD3.out, HB.out.trans HB3.out⟩
      case measure => simp [intOf]; omega
    · have HFl' : Hid ((runL (L.take k)).length ≤ 150) := HFl.out
      have HUp := hid (runL_up (L.take k))
      generalize runL (L.take k) = F at *
      go_upto_region 6 with fail
      go_cut [33] from 26 to 47 (fun cv wx => cv = .bool false ∧ wx = W1)
      case first =>
        rcases (show ¬ k < n ∨ (k < n ∧ ¬ k < 150) by omega) with h1 | ⟨h1, h2⟩
        · go_wp2
          go_meet
          exact ⟨rfl, rfl⟩
        · go_wp2
          go_meet
          exact ⟨by simp; omega, rfl⟩
      case rest =>
        obtain ⟨hu33, hwc⟩ := hcut
        subst hu33
        replace hwc := hwc.symm
        subst hwc
        go_upto_region 9 with fail
        by_cases haz : z < a
        · go_wp2_with (go_at_call 15; refine (range_is HD.out (by have := HFl'.out; omega) (rng_none haz)).mono ?_; rintro e w2 ⟨p2, c2, rfl, -, hb2⟩; have HB2 := hid (HB.out.trans (hb2.mono HB.out.size)); clear hb2)
          go_ret
          exact ⟨rfl, HB2.out⟩
        · go_upto_region 12 with fail
          generalize wrap64 (a.tdiv 2 + z.tdiv 2) = m0 at *
          obtain ⟨r0, hr0⟩ : ∃ r0, r0 = (decide (m0 < a) || decide (z ≤ m0)) := ⟨_, rfl⟩
          have HR0 := hid hr0
          clear hr0
          go_cut [69] from 18 to 159 (fun mv wx => mv = .bool r0 ∧ wx = W1)
          case first =>
            by_cases q1 : m0 < a
            · have e0 : r0 = true := by rw [HR0.out]; simp [q1]
              subst e0
              go_wp2
              go_meet
              exact ⟨rfl, rfl⟩
            · by_cases q2 : z ≤ m0
              · have e0 : r0 = true := by rw [HR0.out]; simp [q2]
                subst e0
                go_wp2
                go_meet
                exact ⟨rfl, rfl⟩
              · have e0 : r0 = false := by rw [HR0.out]; simp [q1, q2]
                subst e0
                go_wp2
                go_meet
                exact ⟨rfl, rfl⟩
          case rest =>
            obtain ⟨hu69, hwc⟩ := hcut
            subst hu69
            replace hwc := hwc.symm
            subst hwc
            go_upto_if 69 with fail
            go_cut [10] from 18 to 159 (fun mv wx => ∃ m : Int, mv = .int .i64 m ∧ (a ≤ m ∧ (m < z ∨ m = a)) ∧ wx = W1)
            case first =>
              cases r0 with
              | true =>
                go_wp2
                go_meet
                exact ⟨a, rfl, by omega, rfl⟩
              | false =>
                go_wp2
                go_meet
                have h0 := HR0.out
                simp at h0
                exact ⟨m0, rfl, by omega, rfl⟩
            case rest =>
              obtain ⟨m, hu10, hm, hwc⟩ := hcut
              subst hu10
              replace hwc := hwc.symm
              subst hwc
              have HM := hid (cut_eq HUp.out hm.1 hm.2 (by omega))
              obtain ⟨A, hA⟩ : ∃ A, rngS F a z = A := ⟨_, rfl⟩
              obtain ⟨A1, hA1⟩ : ∃ A1, rngS F a m = A1 := ⟨_, rfl⟩
              obtain ⟨A2, hA2⟩ : ∃ A2, rngS F (m + 1) z = A2 := ⟨_, rfl⟩
              have HA := hid hA
              have HA1 := hid hA1
              have HA2 := hid hA2
              have HlA : Hid (A.length ≤ 150) := by show _ ≤ _; rw [← hA]; exact Nat.le_trans (rng_len _ _ _) HFl'.out
              have HlA1 : Hid (A1.length ≤ 150) := by show _ ≤ _; rw [← hA1]; exact Nat.le_trans (rng_len _ _ _) HFl'.out
              have HlA2 : Hid (A2.length ≤ 150) := by show _ ≤ _; rw [← hA2]; exact Nat.le_trans (rng_len _ _ _) HFl'.out
              rw [hA, hA1, hA2] at HM
              clear hA hA1 hA2
              have M1 : Hid True := trivial
              go_upto_region 16 with (first
                | (have FIRST := M1; go_at_call 15; refine (range_own HD.out (by have := HFl'.out; omega) HA.out).mono ?_; rintro e w2 ⟨pA, cA, hsA, rfl, hoA, hhA, hb2⟩; have HSA := hid (own_smp hoA hhA (by have := HlA.out; omega)); have HD2 := hid (rkE_on HD.out hb2); have HB2 := hid (HB.out.trans (hb2.mono HB.out.size)); have M2 : Hid True := trivial; clear hoA hhA hb2 FIRST M1)
                | (have FIRST := M2; go_at_call 15; refine (range_own HD2.out (by have := HFl'.out; omega) HA1.out).mono ?_; rintro e w3 ⟨pB, cB, hsB, rfl, hoB, hhB, hb3⟩; have HOB := hid hoB; have HHB := hid hhB; have HSA3 := hid (HSA.out.on hb3); have HD3 := hid (rkE_on HD2.out hb3); have HB3 := hid (HB2.out.trans (hb3.mono HB2.out.size)); clear hoB hhB hb3 FIRST M2))
              go_upto_if 81 with fail
              have hmz0 : m + 1 ≤ 9223372036854775807 ∨ ¬ m < z := by omega
              go_cut [12] from 18 to 159 (fun pv wx => ∃ p c, pv = .slice p A.length c ∧ Hid (Smp wx (.slice p A.length c) A) ∧ Hid (Below w3.heap.size w3 wx))
              case first =>
                by_cases hmz : m < z
                · have HAA := hid (HM.out.1 hmz)
                  have hm1 : m + 1 ≤ 9223372036854775807 := by omega
                  have hm2 : -9223372036854775808 ≤ m := by omega
                  have HSB := hid (Own.sl HOB.out sh_len (bs2 (by rw [HHB.out.1]; have := HlA1.out; omega)))
                  have M3 : Hid True := trivial
                  go_wp2_with (first
                    | (have FIRST := M3; at_builtin; refine app_P (N := 32) (B := w3.heap.size) (xs := []) (ys := hsB) elem32 sh_len (fun x hx => sh_cells (heads_one HHB.out x hx)) rfl _ _ rfl rfl (Own.made Sh.cells 2 32 w3.heap.size w3 (Nat.le_refl _)) rfl (SlAt.on HSB.out ((Below.refl _ _).alloc (Nat.le_refl _) _)) (by rw [HHB.out.1]; have := HlA1.out; simp only [List.length_nil]; omega) (by decide) (by simp) ?_; intro v4 w4 hown4 hg4 hat4; rw [List.nil_append] at hown4; have hb4 : Below w3.heap.size w3 w4 := ((Below.refl _ _).alloc (Nat.le_refl _) (.cells #[] 32)).trans ((Below.refl _ _).grown hg4 (by simp) (fun k e => by cases e; exact Nat.le_refl _)); have HO4 := hid hown4; have HB4 := hid hb4; have HD4 := hid (rkE_on HD3.out hb4); have HH4 := hid (HHB.out.on hb4); have M4 : Hid True := trivial; clear hown4 hg4 hat4 hb4 FIRST M3)
                    | (go_at_call 15; refine (range_own HD4.out (by have := HFl'.out; omega) HA2.out).mono ?_; rintro e w5 ⟨pC, cC, hsC, rfl, hoC, hhC, hb5⟩; have HOC := hid hoC; have HHC := hid hhC; have HSC := hid (Own.sl hoC sh_len (bs2 (by rw [hhC.1]; have := HlA2.out; omega))); have HO5 := hid (own_kp (T := fun _ => False) HO4.out (Kp.of hb5) (fun _ _ => id)); have HH5 := hid (HH4.out.on hb5); have HB5 := hid (HB4.out.trans (hb5.mono HB4.out.size)); clear hoC hhC hb5)
                    | (have FIRST := M4; at_builtin; refine app_P (N := 32) (B := w3.heap.size) (xs := hsB) (ys := hsC) elem32 sh_len (fun x hx => sh_cells (heads_one HHC.out x hx)) rfl _ _ rfl rfl HO5.out rfl HSC.out (by rw [HHB.out.1, HHC.out.1]; have := HlA1.out; have := HlA2.out; omega) (by decide) HB5.out.size ?_; intro v6 w6 hown6 hg6 hat6; have hh6 := (rows_grown HO5.out hg6 (by decide) HH5.out).app (rows_grown HO5.out hg6 (by decide) HHC.out); rw [← HAA.out] at hh6; obtain ⟨p6, c6, rfl⟩ := own_formN (n := A.length) hown6 hh6.1; have HS6 := hid (own_smp hown6 hh6 (by have := HlA.out; omega)); have HB6 := hid (HB5.out.trans (own_below HO5.out hg6 HB5.out.size)); clear hown6 hg6 hat6 hh6 FIRST M4))
                  go_meet
                  exact ⟨p6, c6, rfl, HS6.out, HB6.out⟩
                · have HAA := hid (HM.out.2 (by omega))
                  have HS6 := hid (own_smp HOB.out HHB.out (by have := HlA1.out; omega))
                  rw [← HAA.out] at HS6
                  go_wp2
                  go_meet
                  exact ⟨pB, cB, by rw [HAA.out], HS6.out, Below.refl _ _⟩
              case rest =>
                obtain ⟨pD, cD, hu12, HS6, HB6⟩ := hcut
                subst hu12
                have HSA6 := hid (HSA3.out.on HB6.out)
                have HD6 := hid (rkE_on HD3.out HB6.out)
                have HW6 := hid (HB3.out.trans (HB6.out.mono HB3.out.size))
                clear HSA3 HD3 HB3 HB6 HOB HHB HSA HD2 HB2 HD HB hmz0
                have HUA : Hid (Up A) := by show Up A; rw [← HA.out]; exact rng_up HUp.out a z
                have HGet : Hid (∀ (j : Nat) (s : Sp), A[j]? = some s → (getT F s.t = s.vs ∧ hasT F s.t = true) ∧ a ≤ s.t ∧ s.t ≤ z) := fun j s hs => by
                  rw [← HA.out] at hs
                  exact ⟨rng_get HUp.out hs, (rng_mem.1 (List.mem_of_getElem? hs)).2⟩
                have hlA : A.length ≤ 150 := HlA.out
                have HSx := hid HSA6.out
                obtain ⟨pA', cA', hvA, hcA, hxA⟩ := HSA6.out
                injection hvA with e1 e2 e3
                subst e1 e3
                have HXA := hid hxA
                clear hxA e2
                generalize hnA : A.length = nA at *
                have HNA := hid hnA
                clear hnA
                go_wp2_with (go_at_call 16; refine (same_is HSx.out HS6.out (by rw [HNA.out]; omega) (by rw [HNA.out]; omega) (decide_eq_true rfl)).mono ?_; rintro e w7 ⟨rfl, hb7⟩; have HB7 := hid hb7; clear hb7)
                go_loopw [14, 15, 16, 17] (fun iv _ _ _ wi => ∃ j : Nat, j ≤ nA ∧ iv = .int .i64 j ∧ Hid (Below wc.heap.size wc wi)) (fun iv _ _ _ _ => nA - (intOf iv).toNat)
                case atStart => exact ⟨0, by omega, rfl, HB7.out⟩
                case round =>
                  obtain ⟨j, hj, rfl, HBj⟩ := hrel
                  obtain ⟨W8, hW8⟩ : ∃ W, W = wr := ⟨wr, rfl⟩
                  subst hW8
                  by_cases hjl : j < nA
                  · obtain ⟨s, hs⟩ : ∃ s, A[j]? = some s := ⟨A[j]'(by rw [HNA.out]; exact hjl), List.getElem?_eq_getElem _⟩
                    obtain ⟨g, o, kp, kc, rfl, c0, c1, hr⟩ := HXA.out j s hs
                    obtain ⟨hgt, h3, h4⟩ := HGet.out j s hs
                    have HGt := hid hgt
                    have HC := hid (fun wx (hb : Below wc.heap.size wc wx) => (⟨cell_onB c0 hb, cell_onB c1 hb⟩ : K2 g (o + j * 2) s.t (.slice kp (List.length s.vs) kc) wx))
                    have HR := hid hr
                    have HSj := hid hs
                    obtain ⟨d0, d1⟩ := HC.out W8 HBj.out
                    clear c0 c1 hr hs hgt
                    generalize hns : List.length s.vs = ns at *
                    have HNS := hid hns
                    clear hns
                    go_upto_region 24 with (first
                      | (go_at_call 11; refine (get_is (rkE_on HD6.out HBj.out) (by have := HFl'.out; omega) HGt.out).mono ?_; rintro e w9 ⟨p9, c9, rfl, hr9, hb9⟩; have HR9 := hid hr9; have HB9 := hid (HBj.out.trans (hb9.mono HBj.out.size)); clear d0 d1; obtain ⟨d0, d1⟩ := HC.out w9 HB9.out; clear hr9 hb9)
                      | (go_at_call 13; refine (vals_is (c := true) HR9.out (HR.out.on HB9.out) (decide_eq_true rfl)).mono ?_; rintro e w10 ⟨rfl, hb10⟩; have HB10 := hid (HB9.out.trans (hb10.mono HB9.out.size)); clear d0 d1; obtain ⟨d0, d1⟩ := HC.out w10 HB10.out; clear hb10))
                    have q3 : decide (s.t < a) = false := by simp; omega
                    have q4 : decide (z < s.t) = false := by simp; omega
                    by_cases hj0 : j = 0
                    · subst hj0
                      rw [Nat.zero_mul, Nat.add_zero] at d0
                      go_quiet (fail)
                      go_wp2
                      go_roundw
                      case rel => exact ⟨1, by omega, by go_num, below_drewN HB10.out _⟩
                      case measure => simp [intOf]; omega
                    · obtain ⟨y, hy⟩ : ∃ y, A[j - 1]? = some y := ⟨A[j - 1]'(by rw [HNA.out]; omega), List.getElem?_eq_getElem _⟩
                      obtain ⟨g', o', kp', kc', hp', c0', -, -⟩ := HXA.out (j - 1) y hy
                      cases hp'
                      have d0' := cell_onB c0' HB10.out
                      have hyt := up_lt HUA.out (show j - 1 < j by omega) hy HSj.out
                      have q5 : decide (0 < (j : Int)) = true := by simp; omega
                      have q5' : decide (0 < j) = true := by simp; omega
                      have q5'' : 0 < j := by omega
                      have q6 : decide (s.t ≤ y.t) = false := by simp; omega
                      have hjn : 0 ≤ (j : Int) - 1 := by omega
                      have hjt : ((j : Int) - 1).toNat = j - 1 := by omega
                      clear hy c0'
                      clear HGt HC HR HSj HNS HXA HGet HUA HS6 HD6 HM HR9 HX
                      go_quiet (fail)
                      go_wp2
                      go_roundw
                      case rel => exact ⟨j + 1, by omega, by go_num, below_drewN HB10.out _⟩
                      case measure => simp [intOf]; omega
                  · go_wp2
                    go_ret
                    exact ⟨rfl, HW6.out.trans (HBj.out.mono HW6.out.size)⟩
end Go.Proofs.Ytkjbnanjlcdgjaa
