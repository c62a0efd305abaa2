/-
  What the reference's one returns: a number.
-/
import Derived.Test.YtomnjckbgmbgmaaGreatDoorQROneM
import Derived.Deep.DeepCutAuto
namespace Go.Proofs.YtomnjckbgmbgmaaGreatDoor
open Go.RowKit Go.Joins
theorem getD_at {l : List UInt8} {k : Nat} (h : k < l.length) : l.getD k 0 = l[k] := by
  rw [List.getD_eq_getElem?_getD, List.getElem?_eq_getElem h]; rfl
set_option maxRecDepth 100000 in
set_option maxHeartbeats 1000000 in
theorem rone_nA (l : List UInt8) (hl : (l.length : Int) ≤ 2048) (h1 : 0 < l.length) (hd0 : isDg l[0] = true) (w : World) : Calls Tryz.prog 37 #[.string (St l)] w (OneP (numS l) w) := by
  have hsz := St_size l
  have h1I : 0 < (l.length : Int) := by omega
  have hi0 := idx l 0 h1
  simp only [Int.natCast_zero] at hi0
  have hcd := hd0
  simp [isDg] at hcd
  have hle0 : isLe l[0] = false := by simp [isLe]; omega
  have hng : neg1 l = false := by
    cases l with
    | nil => rfl
    | cons c r => simp [neg1]; intro e; subst e; simp at hcd
  have hsg : sgn1 l = 0 := by unfold sgn1; rw [hng]; rfl
  have hdg : digitsOf l = l := by unfold digitsOf; rw [hng]; rfl
  have hhd : l.head? = some l[0] := head_idx h1
  have HD0 := hid hd0
  have h34I : ¬ ((l[0].toNat : Nat) : Int) = 34 := by omega
  have h45I : ¬ ((l[0].toNat : Nat) : Int) = 45 := by omega
  have b45 : (((l[0].toNat : Nat) : Int) == 45) = false := beq_eq_false_iff_ne.2 h45I
  have HNR := hid (fun m hm h0 => @num_ref l m hm h0)
  unfold badN at HNR
  rw [hsg, hdg, hng, hhd] at HNR
  have HTK := hid (show ∀ k (h : 0 < (l.take k).length), (l.take k)[0] = l[0] from fun k h => by rw [List.getElem_take])
  have HF0 := hid (show ∀ i (h : i < l.length), i < 1 → isDg l[i] = true from fun i h hi => by
    obtain rfl : i = 0 := by omega
    exact hd0)
  generalize hc : l[0] = c at *
  clear hcd hng hsg hdg hhd hd0
  go_enter Tryz.func37, Tryz.ntmps37
  go_wp2_with (first
    | (go_at_call 66; refine (rLe_any _ _).mono ?_; rintro e w2 ⟨rfl, hw2⟩; replace hw2 := hw2.symm; subst hw2; rw [hle0])
    | (go_at_call 69; refine (rDg_any _ _).mono ?_; rintro e w2 ⟨rfl, hw2⟩; replace hw2 := hw2.symm; subst hw2; rw [HD0.out]))
  go_loopw [4] (fun i wr => ∃ k : Nat, (k : Int) ≤ l.length ∧ (1 : Int) ≤ k ∧ i = .int .i64 k ∧ Hid (∀ i (h : i < l.length), i < k → isDg l[i] = true) ∧ w.alloc (.cells z31 33) = wr) (fun i _ => l.length - (intOf i).toNat)
  case atStart => exact ⟨1, by omega, by omega, rfl, HF0.out, rfl⟩
  case round =>
    obtain ⟨k, hk, hk1, rfl, HA, hw⟩ := hrel
    subst hw
    obtain ⟨b, hb⟩ : ∃ b, b = (decide (k < l.length) && isDg (l.getD k 0)) := ⟨_, rfl⟩
    have HBB := hid hb
    clear hb
    go_upto_region 15 with fail
    go_cut [84] from 75 to 84 (fun v wx => v = .bool b ∧ wx = w.alloc (.cells z31 33))
    case first =>
      by_cases hlt : k < l.length
      · have hkI : (k : Int) < l.length := by omega
        have hi := idx l k hlt
        rw [← getD_at hlt] at hi
        have hb : b = isDg (l.getD k 0) := by rw [HBB.out, decide_eq_true hlt]; rfl
        generalize l.getD k 0 = d at *
        subst hb
        go_wp2_with (go_at_call 69; refine (rDg_any _ _).mono ?_; rintro e w3 ⟨rfl, hw3⟩; replace hw3 := hw3.symm; subst hw3)
        go_meet
        exact ⟨rfl, rfl⟩
      · have hkI : ¬ (k : Int) < l.length := by omega
        have hb : b = false := by rw [HBB.out, decide_eq_false hlt]; rfl
        subst hb
        go_wp2_with fail
        go_meet
        exact ⟨rfl, rfl⟩
    case rest =>
      obtain ⟨hu, hwc⟩ := hcut
      subst hu
      subst hwc
      cases b with
      | true =>
        have hlt : k < l.length := by
          apply Classical.byContradiction; intro h
          have := HBB.out; rw [decide_eq_false h] at this; cases this
        have hdk : isDg l[k] = true := by
          have := HBB.out; rw [decide_eq_true hlt, getD_at hlt] at this; simpa using this.symm
        have HDK := hid hdk
        clear hdk
        go_wp2_with fail
        go_roundw
        case rel =>
          refine ⟨k + 1, by omega, by omega, by go_num, ?_, by first | rfl | trivial⟩
          intro i h hik
          rcases Nat.lt_or_ge i k with h9 | h9
          · exact HA.out i h h9
          · obtain rfl : i = k := by omega
            exact HDK.out
        case measure => simp [intOf]; omega
      | false =>
        have hstop : k = l.length ∨ ∃ h : k < l.length, isDg l[k] = false := by
          by_cases hlt : k < l.length
          · right
            refine ⟨hlt, ?_⟩
            have := HBB.out; rw [decide_eq_true hlt, getD_at hlt] at this; simpa using this.symm
          · left; omega
        have HM := spanN_is isDg l k (by omega) HA.out hstop
        have HR := HNR.out k HM (by omega)
        rw [wd_stop l k (by omega) HA.out] at HR
        have hall := spanN_take isDg l
        rw [HM] at hall
        have HRN := hid (fun w => rnum_any false (l.take k) hall (by rw [List.length_take]; omega) (by rw [List.length_take]; omega) w)
        have hst := slT l k (by omega)
        have hsE := St_size (l.take k)
        have hEl : (l.take k).length = k := by rw [List.length_take]; omega
        have hiE := idx (l.take k) 0 (by omega)
        simp only [Int.natCast_zero] at hiE
        rw [HTK.out k (by omega)] at hiE
        rw [hEl] at hsE
        have HRN2 : Hid (∀ w, Calls Tryz.prog 70 #[.string (St (l.take k))] w (RNumP false (dval (l.take k)) w)) := HRN.out
        clear HRN hstop HM hall HA HBB HNR HTK hEl HF0
        generalize l.take k = E at *
        obtain ⟨nz, hnz⟩ : ∃ nz, nz = (decide (c.toNat = 48) && decide (1 < k)) := ⟨_, rfl⟩
        obtain ⟨bad, hbad⟩ : ∃ bad, bad = (nz || decide (19 < k) || (decide (k < l.length) && isWd (l.getD k 0))) := ⟨_, rfl⟩
        have HR2 := hid (show numS l = if bad then none else (numV false (dval E)).map (fun v => (⟨2, [], v, 0⟩, k)) by
          rw [HR, hbad, hnz]
          have e1 : decide ((some c : Option UInt8) = some 48) = decide (c.toNat = 48) := by
            apply decide_eq_decide.2
            constructor
            · intro h; cases h; rfl
            · intro h; rw [UInt8.toNat_inj.1 (show c.toNat = (48 : UInt8).toNat from h)]
          rw [e1, Nat.add_zero, Bool.not_not])
        have HNZ := hid hnz
        have HBAD := hid hbad
        clear HR hnz hbad
        go_upto_region 20 with fail
        go_cut [9] from 95 to 107 (fun v wx => v = .bool nz ∧ wx = w.alloc (.cells z31 33))
        case first =>
          by_cases h48 : c.toNat = 48
          · have b48 : ((c.toNat : Int) == 48) = true := beq_iff_eq.2 (by omega)
            have H48 := hid h48
            by_cases hk2 : 1 < k
            · have hk2I : 1 < (k : Int) := by omega
              have e : nz = true := by rw [HNZ.out]; simp [h48, hk2]
              clear h48
              subst e
              go_wp2_with fail
              go_meet
              exact ⟨rfl, rfl⟩
            · have hk2I : ¬ 1 < (k : Int) := by omega
              have e : nz = false := by rw [HNZ.out]; simp [hk2]
              clear h48
              subst e
              go_wp2_with fail
              go_meet
              exact ⟨rfl, rfl⟩
          · have h48I : ¬ (c.toNat : Int) = 48 := by omega
            have e : nz = false := by rw [HNZ.out]; simp [h48]
            have b48 : ((c.toNat : Int) == 48) = false := beq_eq_false_iff_ne.2 h48I
            subst e
            go_wp2_with fail
            go_meet
            exact ⟨rfl, rfl⟩
        case rest =>
          obtain ⟨hu, hwc⟩ := hcut
          subst hu
          subst hwc
          go_upto_region 21 with fail
          go_cut [125] from 108 to 125 (fun v wx => v = .bool bad ∧ wx = w.alloc (.cells z31 33))
          case first =>
            cases nz with
            | true =>
              have e : bad = true := by rw [HBAD.out]; rfl
              subst e
              go_wp2_with fail
              go_meet
              exact ⟨rfl, rfl⟩
            | false =>
              by_cases h19 : 19 < k
              · have h19I : 19 < (k : Int) := by omega
                have e : bad = true := by rw [HBAD.out]; simp [h19]
                subst e
                go_wp2_with fail
                go_meet
                exact ⟨rfl, rfl⟩
              · have h19I : ¬ 19 < (k : Int) := by omega
                by_cases hlt : k < l.length
                · have hkI : (k : Int) < l.length := by omega
                  have hi := idx l k hlt
                  rw [← getD_at hlt] at hi
                  have e : bad = isWd (l.getD k 0) := by rw [HBAD.out]; simp [h19, hlt]
                  generalize l.getD k 0 = d at *
                  subst e
                  go_wp2_with (go_at_call 67; refine (rWd_any _ _).mono ?_; rintro e w3 ⟨rfl, hw3⟩; replace hw3 := hw3.symm; subst hw3)
                  go_meet
                  exact ⟨rfl, rfl⟩
                · have hkI : ¬ (k : Int) < l.length := by omega
                  have e : bad = false := by rw [HBAD.out]; simp [h19, hlt]
                  subst e
                  go_wp2_with fail
                  go_meet
                  exact ⟨rfl, rfl⟩
          case rest =>
            obtain ⟨hu, hwc⟩ := hcut
            subst hu
            subst hwc
            cases bad with
            | true =>
              have HZ := hid (show numS l = none by rw [HR2.out]; rfl)
              go_wp2_with fail
              refine bodyPost_ret (v := .tuple #[TV 0 [] 0 0, .int .i64 0]) (by simp [results, Tryz.results37, go_sem]; rfl) rfl ⟨⟨0, [], 0, 0, 0, rfl, fun _ => rfl, fun t q h => ?_⟩, by go_grown⟩
              rw [HZ.out] at h; cases h
            | false =>
              have HZ := hid (show numS l = (numV false (dval E)).map (fun v => (⟨2, [], v, 0⟩, k)) by rw [HR2.out]; rfl)
              generalize dval E = v at *
              cases hv : numV false v with
              | none =>
                go_wp2_with (go_at_call 70; refine (HRN2.out _).mono ?_; unfold RNumP; rintro e w3 ⟨⟨x, rfl, hx⟩, hw3⟩; replace hw3 := hw3.symm; subst hw3; clear hx; rw [hv])
                refine bodyPost_ret (v := .tuple #[TV 0 [] 0 0, .int .i64 0]) (by simp [results, Tryz.results37, go_sem]; rfl) rfl ⟨⟨0, [], 0, 0, 0, rfl, fun _ => rfl, fun t q h => ?_⟩, by go_grown⟩
                rw [HZ.out, hv] at h; cases h
              | some y =>
                go_wp2_with (go_at_call 70; refine (HRN2.out _).mono ?_; unfold RNumP; rintro e w3 ⟨⟨x, rfl, hx⟩, hw3⟩; replace hw3 := hw3.symm; subst hw3; have hxy := hx y hv; subst hxy; clear hx; rw [hv])
                refine bodyPost_ret (v := .tuple #[TV 2 [] x 0, .int .i64 (k : Int)]) (by simp [results, Tryz.results37, go_sem]; rfl) rfl ⟨⟨2, [], x, 0, (k : Int), rfl, fun h => ?_, fun t q h => ?_⟩, by go_grown⟩
                · rw [HZ.out, hv] at h; cases h
                · rw [HZ.out, hv] at h; cases h; exact ⟨rfl, rfl, rfl, rfl, rfl⟩
end Go.Proofs.YtomnjckbgmbgmaaGreatDoor
