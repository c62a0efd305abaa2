/-
  What the reference's one returns: a number with a sign ahead.
-/
import Derived.Test.YtomnjckbgmbgmaaGreatDoorQROneN
namespace Go.Proofs.YtomnjckbgmbgmaaGreatDoor
open Go.RowKit Go.Joins
set_option maxRecDepth 100000 in
set_option maxHeartbeats 1000000 in
theorem rone_nB (r : List UInt8) (hl : (r.length : Int) + 1 ≤ 2048) (h1 : 0 < r.length) (hd0 : isDg r[0] = true) (w : World) : Calls Tryz.prog 37 #[.string (St (45 :: r))] w (OneP (numS (45 :: r)) w) := by
  have hsz : (St (45 :: r)).size = r.length + 1 := St_size (45 :: r)
  have h1I : 0 < (r.length : Int) := by omega
  have h1J : 1 < (r.length : Int) + 1 := by omega
  have hi0 := idx (45 :: r) 0 (by simp)
  simp only [Int.natCast_zero, List.getElem_cons_zero, show (UInt8.toNat 45) = 45 from rfl, show ((45 : Nat) : Int) = 45 from rfl] at hi0
  have hi1 := idx (45 :: r) 1 (by simp; omega)
  simp only [List.getElem_cons_succ, show ((1 : Nat) : Int) = 1 from rfl] at hi1
  have hhd : r.head? = some r[0] := head_idx h1
  have HD0 := hid hd0
  have HNR := hid (fun m hm h0 => @num_ref (45 :: r) m hm h0)
  unfold badN at HNR
  rw [show sgn1 (45 :: r) = 1 from rfl, show digitsOf (45 :: r) = r from rfl, show neg1 (45 :: r) = true from rfl, hhd] at HNR
  have HTK := hid (show ∀ k (h : 0 < (r.take k).length), (r.take k)[0] = r[0] from fun k h => by rw [List.getElem_take])
  have HF0 := hid (show isDg (r.getD 0 0) = true by rw [getD_at h1]; exact hd0)
  generalize hc : r[0] = c at *
  clear hhd hd0
  have M1 : Hid True := hid trivial
  go_enter Tryz.func37, Tryz.ntmps37
  go_wp2_with (first
    | (go_at_call 66; refine (rLe_45 _).mono ?_; rintro e w2 ⟨rfl, hw2⟩; replace hw2 := hw2.symm; subst hw2)
    | (go_at_call 69; clear M1; refine (rDg_45 _).mono ?_; rintro e w2 ⟨rfl, hw2⟩; replace hw2 := hw2.symm; subst hw2)
    | (go_at_call 69; refine (rDg_any _ _).mono ?_; rintro e w2 ⟨rfl, hw2⟩; replace hw2 := hw2.symm; subst hw2; rw [HD0.out]))
  go_loopw [4] (fun i wr => ∃ k : Nat, (k : Int) ≤ r.length ∧ i = .int .i64 ((k : Int) + 1) ∧ Hid (∀ i (h : i < r.length), i < k → isDg r[i] = true) ∧ w.alloc (.cells z31 33) = wr) (fun i _ => r.length + 1 - (intOf i).toNat)
  case atStart => exact ⟨0, by omega, rfl, fun i h hi => by omega, rfl⟩
  case round =>
    obtain ⟨k, hk, rfl, HA, hw⟩ := hrel
    subst hw
    obtain ⟨b, hb⟩ : ∃ b, b = (decide (k < r.length) && isDg (r.getD k 0)) := ⟨_, rfl⟩
    have HBB := hid hb
    clear hb
    go_upto_region 15 with fail
    go_cut [84] from 75 to 84 (fun v wx => v = .bool b ∧ wx = w.alloc (.cells z31 33))
    case first =>
      by_cases hlt : k < r.length
      · have hkI : (k : Int) + 1 < (r.length : Int) + 1 := by omega
        have hkI2 : (k : Int) < r.length := by omega
        have hi := idx (45 :: r) (k + 1) (by simp; omega)
        simp only [List.getElem_cons_succ, Int.natCast_add, Int.natCast_one] at hi
        rw [← getD_at hlt] at hi
        have hb : b = isDg (r.getD k 0) := by rw [HBB.out, decide_eq_true hlt]; rfl
        generalize r.getD k 0 = d at *
        subst hb
        go_wp2_with (go_at_call 69; refine (rDg_any _ _).mono ?_; rintro e w3 ⟨rfl, hw3⟩; replace hw3 := hw3.symm; subst hw3)
        go_meet
        exact ⟨rfl, rfl⟩
      · have hkI : ¬ (k : Int) + 1 < (r.length : Int) + 1 := by omega
        have hkI2 : ¬ (k : Int) < r.length := by omega
        have hb : b = false := by rw [HBB.out, decide_eq_false hlt]; rfl
        subst hb
        go_wp2_with fail
        go_meet
        exact ⟨rfl, rfl⟩
    case rest =>
      obtain ⟨hu, hwc⟩ := hcut
      subst hu
      subst hwc
      cases b with
      | true =>
        have hlt : k < r.length := by
          apply Classical.byContradiction; intro h
          have := HBB.out; rw [decide_eq_false h] at this; cases this
        have hdk : isDg r[k] = true := by
          have := HBB.out; rw [decide_eq_true hlt, getD_at hlt] at this; simpa using this.symm
        have HDK := hid hdk
        clear hdk
        go_wp2_with fail
        go_roundw
        case rel =>
          refine ⟨k + 1, by omega, by go_num, ?_, by first | rfl | trivial⟩
          intro i h hik
          rcases Nat.lt_or_ge i k with h9 | h9
          · exact HA.out i h h9
          · obtain rfl : i = k := by omega
            exact HDK.out
        case measure => simp [intOf]; omega
      | false =>
        have hk0 : 0 < k := by
          apply Classical.byContradiction; intro h
          obtain rfl : k = 0 := by omega
          have := HBB.out; rw [decide_eq_true h1, HF0.out] at this; cases this
        have hk1 : (1 : Int) ≤ k := by omega
        have hstop : k = r.length ∨ ∃ h : k < r.length, isDg r[k] = false := by
          by_cases hlt : k < r.length
          · right
            refine ⟨hlt, ?_⟩
            have := HBB.out; rw [decide_eq_true hlt, getD_at hlt] at this; simpa using this.symm
          · left; omega
        have HM := spanN_is isDg r k (by omega) HA.out hstop
        have HR := HNR.out k HM (by omega)
        rw [wd_stop r k (by omega) HA.out] at HR
        have hall := spanN_take isDg r
        rw [HM] at hall
        have HRN := hid (fun w => rnum_t (r.take k) hall (by rw [List.length_take]; omega) (by rw [List.length_take]; omega) w)
        have hst := slT (45 :: r) (k + 1) (by simp; omega)
        simp only [List.take_succ_cons, Int.natCast_add, Int.natCast_one] at hst
        have hEl : (r.take k).length = k := by rw [List.length_take]; omega
        have hsE := St_size (r.take k)
        have hi45 := idx (45 :: r.take k) 0 (by simp)
        simp only [Int.natCast_zero, List.getElem_cons_zero, show (UInt8.toNat 45) = 45 from rfl, show ((45 : Nat) : Int) = 45 from rfl] at hi45
        have hsl := slF (45 :: r.take k) 1 (by simp)
        simp only [List.drop_succ_cons, List.drop_zero, show ((1 : Nat) : Int) = 1 from rfl] at hsl
        have hiE := idx (r.take k) 0 (by omega)
        simp only [Int.natCast_zero] at hiE
        rw [HTK.out k (by omega)] at hiE
        rw [hEl] at hsE
        clear hstop HM hall HA HBB HNR HTK hEl HF0
        generalize r.take k = E at *
        obtain ⟨nz, hnz⟩ : ∃ nz, nz = decide (c.toNat = 48) := ⟨_, rfl⟩
        obtain ⟨bad, hbad⟩ : ∃ bad, bad = (nz || decide (19 < k) || (decide (k < r.length) && isWd (r.getD k 0))) := ⟨_, rfl⟩
        have HR2 := hid (show numS (45 :: r) = if bad then none else (numV true (dval E)).map (fun v => (⟨2, [], v, 0⟩, k + 1)) by
          rw [HR, hbad, hnz]
          have e1 : decide ((some c : Option UInt8) = some 48) = decide (c.toNat = 48) := by
            apply decide_eq_decide.2
            constructor
            · intro h; cases h; rfl
            · intro h; rw [UInt8.toNat_inj.1 (show c.toNat = (48 : UInt8).toNat from h)]
          rw [e1, decide_eq_true (show 1 < k + 1 by omega), Bool.and_true, Bool.not_not])
        have HNZ := hid hnz
        have HBAD := hid hbad
        clear HR hnz hbad
        go_upto_region 20 with fail
        go_cut [9] from 95 to 107 (fun v wx => v = .bool nz ∧ wx = w.alloc (.cells z31 33))
        case first =>
          by_cases h48 : c.toNat = 48
          · have b48 : ((c.toNat : Int) == 48) = true := beq_iff_eq.2 (by omega)
            have e : nz = true := by rw [HNZ.out]; simp [h48]
            clear h48
            subst e
            by_cases hk2 : 1 < k
            · have hk2I : 1 < (k : Int) := by omega
              go_wp2_with fail
              go_meet
              exact ⟨rfl, rfl⟩
            · have hk2I : ¬ 1 < (k : Int) := by omega
              go_wp2_with fail
              go_meet
              exact ⟨rfl, rfl⟩
          · have h48I : ¬ (c.toNat : Int) = 48 := by omega
            have e : nz = false := by rw [HNZ.out]; simp [h48]
            have b48 : ((c.toNat : Int) == 48) = false := beq_eq_false_iff_ne.2 h48I
            subst e
            go_wp2_with fail
            go_meet
            exact ⟨rfl, rfl⟩
        case rest =>
          obtain ⟨hu, hwc⟩ := hcut
          subst hu
          subst hwc
          go_upto_region 21 with fail
          go_cut [125] from 108 to 125 (fun v wx => v = .bool bad ∧ wx = w.alloc (.cells z31 33))
          case first =>
            cases nz with
            | true =>
              have e : bad = true := by rw [HBAD.out]; rfl
              subst e
              go_wp2_with fail
              go_meet
              exact ⟨rfl, rfl⟩
            | false =>
              by_cases h19 : 19 < k
              · have h19I : 19 < (k : Int) := by omega
                have e : bad = true := by rw [HBAD.out]; simp [h19]
                subst e
                go_wp2_with fail
                go_meet
                exact ⟨rfl, rfl⟩
              · have h19I : ¬ 19 < (k : Int) := by omega
                by_cases hlt : k < r.length
                · have hkI : (k : Int) + 1 < (r.length : Int) + 1 := by omega
                  have hkI2 : (k : Int) < r.length := by omega
                  have hi := idx (45 :: r) (k + 1) (by simp; omega)
                  simp only [List.getElem_cons_succ, Int.natCast_add, Int.natCast_one] at hi
                  rw [← getD_at hlt] at hi
                  have e : bad = isWd (r.getD k 0) := by rw [HBAD.out]; simp [h19, hlt]
                  generalize r.getD k 0 = d at *
                  subst e
                  go_wp2_with (go_at_call 67; refine (rWd_any _ _).mono ?_; rintro e w3 ⟨rfl, hw3⟩; replace hw3 := hw3.symm; subst hw3)
                  go_meet
                  exact ⟨rfl, rfl⟩
                · have hkI : ¬ (k : Int) + 1 < (r.length : Int) + 1 := by omega
                  have hkI2 : ¬ (k : Int) < r.length := by omega
                  have e : bad = false := by rw [HBAD.out]; simp [h19, hlt]
                  subst e
                  go_wp2_with fail
                  go_meet
                  exact ⟨rfl, rfl⟩
          case rest =>
            obtain ⟨hu, hwc⟩ := hcut
            subst hu
            subst hwc
            cases bad with
            | true =>
              have HZ := hid (show numS (45 :: r) = none by rw [HR2.out]; rfl)
              go_wp2_with fail
              refine bodyPost_ret (v := .tuple #[TV 0 [] 0 0, .int .i64 0]) (by simp [results, Tryz.results37, go_sem]; rfl) rfl ⟨⟨0, [], 0, 0, 0, rfl, fun _ => rfl, fun t q h => ?_⟩, by go_grown⟩
              rw [HZ.out] at h; cases h
            | false =>
              have HZ := hid (show numS (45 :: r) = (numV true (dval E)).map (fun v => (⟨2, [], v, 0⟩, k + 1)) by rw [HR2.out]; rfl)
              generalize dval E = v at *
              cases hv : numV true v with
              | none =>
                go_wp2_with (go_at_call 70; refine (HRN.out _).mono ?_; unfold RNumP; rintro e w3 ⟨⟨x, rfl, hx⟩, hw3⟩; replace hw3 := hw3.symm; subst hw3; clear hx; rw [hv])
                refine bodyPost_ret (v := .tuple #[TV 0 [] 0 0, .int .i64 0]) (by simp [results, Tryz.results37, go_sem]; rfl) rfl ⟨⟨0, [], 0, 0, 0, rfl, fun _ => rfl, fun t q h => ?_⟩, by go_grown⟩
                rw [HZ.out, hv] at h; cases h
              | some y =>
                go_wp2_with (go_at_call 70; refine (HRN.out _).mono ?_; unfold RNumP; rintro e w3 ⟨⟨x, rfl, hx⟩, hw3⟩; replace hw3 := hw3.symm; subst hw3; have hxy := hx y hv; subst hxy; clear hx; rw [hv])
                refine bodyPost_ret (v := .tuple #[TV 2 [] x 0, .int .i64 ((k : Int) + 1)]) (by simp [results, Tryz.results37, go_sem]; rfl) rfl ⟨⟨2, [], x, 0, (k : Int) + 1, rfl, fun h => ?_, fun t q h => ?_⟩, by go_grown⟩
                · rw [HZ.out, hv] at h; cases h
                · rw [HZ.out, hv] at h; cases h; exact ⟨rfl, rfl, rfl, rfl, rfl⟩
theorem rone_any (l : List UInt8) (hl : (l.length : Int) ≤ 2048) (h1 : 0 < l.length) (w : World) : Calls Tryz.prog 37 #[.string (St l)] w (OneP (firstS l) w) := by
  cases hle : isLe l[0] with
  | true => rw [firstS_w h1 hle]; exact rone_w l hl h1 hle w
  | false =>
    by_cases h34 : l[0].toNat = 34
    · rw [firstS_t h1 h34]; exact rone_t l hl h1 h34 w
    · cases hd : isDg l[0] with
      | true => rw [firstS_n h1 hle (.inr hd)]; exact rone_nA l hl h1 hd w
      | false =>
        by_cases h45 : l[0].toNat = 45 ∧ ∃ h2 : 1 < l.length, isDg l[1] = true
        · obtain ⟨h45, h2, hd1⟩ := h45
          rw [firstS_n h1 hle (.inl h45)]
          obtain ⟨c, r, rfl⟩ : ∃ c r, l = c :: r := by
            cases l with
            | nil => simp at h1
            | cons c r => exact ⟨c, r, rfl⟩
          obtain rfl : c = 45 := UInt8.toNat_inj.1 h45
          exact rone_nB r (by simpa using hl) (by simpa using h2) hd1 w
        · have hO : Other l := fun _ => ⟨hle, h34, hd, fun h5 h2 => by
            cases hx : isDg l[1] with
            | false => rfl
            | true => exact absurd ⟨h5, h2, hx⟩ h45⟩
          rw [first_other h1 hO]; exact rone_s l hl h1 hO w
end Go.Proofs.YtomnjckbgmbgmaaGreatDoor
