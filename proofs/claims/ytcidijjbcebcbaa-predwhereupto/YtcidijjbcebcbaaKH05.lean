/-
  What the reference's one returns: a sign, or nothing.
  A number's digits, counted from their first.
  What the reference's one returns: a number.
  What the reference's one returns: a number with a sign ahead.
  What the reference's Lex returns.
-/
import Derived.Test.YtcidijjbcebcbaaKH04
import Derived.Deep.DeepCutAuto
namespace Go.Proofs.Ytcidijjbcebcbaa
open Go.RowKit Go.Joins
theorem rLe_45 (w : World) : Calls Try.prog 80 #[.int .u8 45] w fun e w' => e = .returned (.bool false) ∧ w' = w := rLe_any 45 w
theorem rDg_45 (w : World) : Calls Try.prog 83 #[.int .u8 45] w fun e w' => e = .returned (.bool false) ∧ w' = w := rDg_any 45 w
theorem sgn_forms (l : List UInt8) : (signS l = none ∧ sgnOf l = []) ∨ signS l = some (⟨4, sgnOf l, 0, 0⟩, (sgnOf l).length) := by
  cases h : signS l with
  | none => exact .inl ⟨rfl, sgnOf_no h⟩
  | some x =>
    right
    have h0 := h
    unfold signS at h
    split at h
    · cases h; rw [sgnOf_yes h0]
    · cases h
set_option maxRecDepth 100000 in
set_option maxHeartbeats 1000000 in
theorem rone_s (l : List UInt8) (hl : (l.length : Int) ≤ 2048) (h1 : 0 < l.length) (hO : Other l) (w : World) : Calls Try.prog 51 #[.string (St l)] w (OneP (signS l) w) := by
  have hsz := St_size l
  have h1I : 0 < (l.length : Int) := by omega
  have hi0 := idx l 0 h1
  simp only [Int.natCast_zero] at hi0
  obtain ⟨a1, a2, a3, a4⟩ := hO h1
  have HRS := hid (fun w => rsign_any l (by omega) h1 w)
  have HF := hid (sgn_forms l)
  generalize sgnOf l = x at *
  have hsx := St_size x
  by_cases h45 : l[0].toNat = 45
  · have A4 := hid (a4 h45)
    rw [h45] at hi0
    simp only [show ((45 : Nat) : Int) = 45 from rfl] at hi0
    clear a1 a2 a3 a4 h45
    by_cases hlt : 1 < l.length
    · have hltI : 1 < (l.length : Int) := by omega
      have hi1 := idx l 1 hlt
      simp only [show ((1 : Nat) : Int) = 1 from rfl] at hi1
      have HD := hid (A4.out hlt)
      clear A4
      generalize l[1] = d at *
      have M1 : Hid True := hid trivial
      go_enter Try.func51, Try.ntmps51
      go_wp2_with (first
        | (go_at_call 80; refine (rLe_45 _).mono ?_; rintro e w2 ⟨rfl, hw2⟩; replace hw2 := hw2.symm; subst hw2)
        | (go_at_call 83; clear M1; refine (rDg_45 _).mono ?_; rintro e w2 ⟨rfl, hw2⟩; replace hw2 := hw2.symm; subst hw2)
        | (go_at_call 83; refine (rDg_any _ _).mono ?_; rintro e w2 ⟨rfl, hw2⟩; replace hw2 := hw2.symm; subst hw2; rw [HD.out])
        | (go_at_call 85; refine (HRS.out _).mono ?_; rintro e w3 ⟨rfl, hb⟩; have HKB := hid (box_keep hb); have hfz := HKB.out.1.frozen; have hcs := HKB.out.1.cells; obtain ⟨hc0, hc1, hc2, hc3⟩ := hcs; clear hb))
      have hE := HKB.out.1.set4 (.int .i64 4) (.string (St x)) (.int .i64 0) (.int .i64 0)
      obtain ⟨d0, d1, d2, d3⟩ := hE.cells
      have HBB := hid (below_set4 HKB.out.2 (Nat.le_refl _) (.int .i64 4) (.string (St x)) (.int .i64 0) (.int .i64 0))
      refine bodyPost_ret (v := .tuple #[TV 4 x 0 0, .int .i64 (x.length : Int)]) ?_ rfl ⟨⟨4, x, 0, 0, (x.length : Int), rfl, ?_, ?_⟩, HBB.out⟩
      · clear hc0 hc1 hc2 hc3
        simp [results, Try.results51, go_sem, d0, d1, d2, d3]
      · intro h
        rcases HF.out with ⟨-, h2⟩ | h2
        · rw [h2]; rfl
        · rw [h2] at h; cases h
      · intro t q h
        rcases HF.out with ⟨h2, -⟩ | h2
        · rw [h2] at h; cases h
        · rw [h2] at h; cases h; exact ⟨rfl, rfl, rfl, rfl, rfl⟩
    · have hltI : ¬ 1 < (l.length : Int) := by omega
      clear A4
      go_enter Try.func51, Try.ntmps51
      go_wp2_with (first
        | (go_at_call 80; refine (rLe_45 _).mono ?_; rintro e w2 ⟨rfl, hw2⟩; replace hw2 := hw2.symm; subst hw2)
        | (go_at_call 83; refine (rDg_45 _).mono ?_; rintro e w2 ⟨rfl, hw2⟩; replace hw2 := hw2.symm; subst hw2)
        | (go_at_call 85; refine (HRS.out _).mono ?_; rintro e w3 ⟨rfl, hb⟩; have HKB := hid (box_keep hb); have hfz := HKB.out.1.frozen; have hcs := HKB.out.1.cells; obtain ⟨hc0, hc1, hc2, hc3⟩ := hcs; clear hb))
      have hE := HKB.out.1.set4 (.int .i64 4) (.string (St x)) (.int .i64 0) (.int .i64 0)
      obtain ⟨d0, d1, d2, d3⟩ := hE.cells
      have HBB := hid (below_set4 HKB.out.2 (Nat.le_refl _) (.int .i64 4) (.string (St x)) (.int .i64 0) (.int .i64 0))
      refine bodyPost_ret (v := .tuple #[TV 4 x 0 0, .int .i64 (x.length : Int)]) ?_ rfl ⟨⟨4, x, 0, 0, (x.length : Int), rfl, ?_, ?_⟩, HBB.out⟩
      · clear hc0 hc1 hc2 hc3
        simp [results, Try.results51, go_sem, d0, d1, d2, d3]
      · intro h
        rcases HF.out with ⟨-, h2⟩ | h2
        · rw [h2]; rfl
        · rw [h2] at h; cases h
      · intro t q h
        rcases HF.out with ⟨h2, -⟩ | h2
        · rw [h2] at h; cases h
        · rw [h2] at h; cases h; exact ⟨rfl, rfl, rfl, rfl, rfl⟩
  · have h45I : ¬ ((l[0].toNat : Nat) : Int) = 45 := by omega
    have h34I : ¬ ((l[0].toNat : Nat) : Int) = 34 := by omega
    have b45 : (((l[0].toNat : Nat) : Int) == 45) = false := beq_eq_false_iff_ne.2 h45I
    clear a2 a4 h45
    generalize l[0] = c at *
    go_enter Try.func51, Try.ntmps51
    go_wp2_with (first
      | (go_at_call 80; refine (rLe_any _ _).mono ?_; rintro e w2 ⟨rfl, hw2⟩; replace hw2 := hw2.symm; subst hw2; rw [a1])
      | (go_at_call 83; refine (rDg_any _ _).mono ?_; rintro e w2 ⟨rfl, hw2⟩; replace hw2 := hw2.symm; subst hw2; rw [a3])
      | (go_at_call 85; refine (HRS.out _).mono ?_; rintro e w3 ⟨rfl, hb⟩; have HKB := hid (box_keep hb); have hfz := HKB.out.1.frozen; have hcs := HKB.out.1.cells; obtain ⟨hc0, hc1, hc2, hc3⟩ := hcs; clear hb))
    have hE := HKB.out.1.set4 (.int .i64 4) (.string (St x)) (.int .i64 0) (.int .i64 0)
    obtain ⟨d0, d1, d2, d3⟩ := hE.cells
    have HBB := hid (below_set4 HKB.out.2 (Nat.le_refl _) (.int .i64 4) (.string (St x)) (.int .i64 0) (.int .i64 0))
    refine bodyPost_ret (v := .tuple #[TV 4 x 0 0, .int .i64 (x.length : Int)]) ?_ rfl ⟨⟨4, x, 0, 0, (x.length : Int), rfl, ?_, ?_⟩, HBB.out⟩
    · clear hc0 hc1 hc2 hc3
      simp [results, Try.results51, go_sem, d0, d1, d2, d3]
    · intro h
      rcases HF.out with ⟨-, h2⟩ | h2
      · rw [h2]; rfl
      · rw [h2] at h; cases h
    · intro t q h
      rcases HF.out with ⟨h2, -⟩ | h2
      · rw [h2] at h; cases h
      · rw [h2] at h; cases h; exact ⟨rfl, rfl, rfl, rfl, rfl⟩
end Go.Proofs.Ytcidijjbcebcbaa
namespace Go.Proofs.Ytcidijjbcebcbaa
open Go.RowKit Go.Joins
theorem ten19 (E : List UInt8) (c : UInt8) (t : List UInt8) (hE : E = c :: t) (hd : isDg c = true) (hc : ¬ c.toNat = 48) (hl : 19 < E.length) : 9223372036854775808 < dval E := by
  subst hE
  unfold dval
  rw [dvalF_cons]
  have h1 := dvalF_ge t (dstep 0 c)
  have h2 : 1 ≤ dstep 0 c := by unfold dstep; simp [isDg] at hd; omega
  have h3 : 10 ^ 19 ≤ 10 ^ t.length := Nat.pow_le_pow_right (by decide) (by simp at hl; omega)
  have h4 : 1 * 10 ^ t.length ≤ dstep 0 c * 10 ^ t.length := Nat.mul_le_mul_right _ h2
  have h5 : (10 : Nat) ^ 19 = 10000000000000000000 := by decide
  omega
/-- Whether the reference refuses digits. -/
def badN (l : List UInt8) (m : Nat) : Bool :=
  (decide ((digitsOf l).head? = some 48) && decide (1 < m + sgn1 l)) || decide (19 < m) || !(decide (spanN isWd (digitsOf l) = m))
theorem num_ref {l : List UInt8} {m : Nat} (hm : spanN isDg (digitsOf l) = m) (h0 : 0 < m) :
    numS l = if badN l m then none else (numV (neg1 l) (dval ((digitsOf l).take m))).map (fun v => (⟨2, [], v, 0⟩, m + sgn1 l)) := by
  unfold numS badN
  rw [hm]
  by_cases h1 : spanN isWd (digitsOf l) = m
  · rw [if_neg (by omega), h1]
    by_cases h2 : (digitsOf l).head? = some 48 ∧ 1 < m + sgn1 l
    · rw [if_pos h2]; simp [h2.1, h2.2]
    · rw [if_neg h2]
      by_cases h3 : 19 < m
      · have hb : numV (neg1 l) (dval ((digitsOf l).take m)) = none := by
          have hle := spanN_le isDg (digitsOf l)
          have ht := spanN_take isDg (digitsOf l)
          rw [hm] at hle ht
          generalize digitsOf l = D at *
          obtain ⟨c, t, rfl⟩ : ∃ c t, D = c :: t := by
            cases D with
            | nil => simp at hle; omega
            | cons c t => exact ⟨c, t, rfl⟩
          obtain ⟨m', rfl⟩ : ∃ m', m = m' + 1 := ⟨m - 1, by omega⟩
          refine numV_no _ _ (ten19 _ c (t.take m') rfl (ht c (by simp)) ?_ (by simp at hle ⊢; omega))
          intro h48
          apply h2
          have : c = 48 := UInt8.toNat_inj.1 h48
          subst this
          exact ⟨rfl, by omega⟩
        rw [hb]; simp [h3]
      · have h2' : (decide ((digitsOf l).head? = some 48) && decide (1 < m + sgn1 l)) = false := by
          apply Bool.eq_false_iff.2; intro h; simp at h; exact h2 h
        rw [h2']; simp [h3]
  · rw [if_pos (by right; omega)]; simp [h1]
theorem wd_stop (D : List UInt8) (m : Nat) (hle : m ≤ D.length) (hd : ∀ i (h : i < D.length), i < m → isDg D[i] = true) :
    decide (spanN isWd D = m) = !(decide (m < D.length) && isWd (D.getD m 0)) := by
  by_cases h : m < D.length
  · have hg : D.getD m 0 = D[m] := by rw [List.getD_eq_getElem?_getD, List.getElem?_eq_getElem h]; rfl
    rw [hg, decide_eq_true h]
    cases hx : isWd D[m] with
    | false =>
      rw [decide_eq_true (spanN_is isWd D m hle (fun i hi hm => isDg_isWd (hd i hi hm)) (.inr ⟨h, hx⟩))]; rfl
    | true =>
      have : ¬ spanN isWd D = m := fun e => by
        have := spanN_stop isWd D (by omega)
        simp only [e] at this
        rw [hx] at this; cases this
      simp [this]
  · rw [decide_eq_false h, decide_eq_true (spanN_is isWd D m hle (fun i hi hm => isDg_isWd (hd i hi hm)) (.inl (by omega)))]; rfl
end Go.Proofs.Ytcidijjbcebcbaa
namespace Go.Proofs.Ytcidijjbcebcbaa
open Go.RowKit Go.Joins
theorem getD_at {l : List UInt8} {k : Nat} (h : k < l.length) : l.getD k 0 = l[k] := by
  rw [List.getD_eq_getElem?_getD, List.getElem?_eq_getElem h]; rfl
set_option maxRecDepth 100000 in
set_option maxHeartbeats 1000000 in
theorem rone_nA (l : List UInt8) (hl : (l.length : Int) ≤ 2048) (h1 : 0 < l.length) (hd0 : isDg l[0] = true) (w : World) : Calls Try.prog 51 #[.string (St l)] w (OneP (numS l) w) := by
  have hsz := St_size l
  have h1I : 0 < (l.length : Int) := by omega
  have hi0 := idx l 0 h1
  simp only [Int.natCast_zero] at hi0
  have hcd := hd0
  simp [isDg] at hcd
  have hle0 : isLe l[0] = false := by simp [isLe]; omega
  have hng : neg1 l = false := by
    cases l with
    | nil => rfl
    | cons c r => simp [neg1]; intro e; subst e; simp at hcd
  have hsg : sgn1 l = 0 := by unfold sgn1; rw [hng]; rfl
  have hdg : digitsOf l = l := by unfold digitsOf; rw [hng]; rfl
  have hhd : l.head? = some l[0] := head_idx h1
  have HD0 := hid hd0
  have h34I : ¬ ((l[0].toNat : Nat) : Int) = 34 := by omega
  have h45I : ¬ ((l[0].toNat : Nat) : Int) = 45 := by omega
  have b45 : (((l[0].toNat : Nat) : Int) == 45) = false := beq_eq_false_iff_ne.2 h45I
  have HNR := hid (fun m hm h0 => @num_ref l m hm h0)
  unfold badN at HNR
  rw [hsg, hdg, hng, hhd] at HNR
  have HTK := hid (show ∀ k (h : 0 < (l.take k).length), (l.take k)[0] = l[0] from fun k h => by rw [List.getElem_take])
  have HF0 := hid (show ∀ i (h : i < l.length), i < 1 → isDg l[i] = true from fun i h hi => by
    obtain rfl : i = 0 := by omega
    exact hd0)
  generalize hc : l[0] = c at *
  clear hcd hng hsg hdg hhd hd0
  go_enter Try.func51, Try.ntmps51
  go_wp2_with (first
    | (go_at_call 80; refine (rLe_any _ _).mono ?_; rintro e w2 ⟨rfl, hw2⟩; replace hw2 := hw2.symm; subst hw2; rw [hle0])
    | (go_at_call 83; refine (rDg_any _ _).mono ?_; rintro e w2 ⟨rfl, hw2⟩; replace hw2 := hw2.symm; subst hw2; rw [HD0.out]))
  go_loopw [4] (fun i wr => ∃ k : Nat, (k : Int) ≤ l.length ∧ (1 : Int) ≤ k ∧ i = .int .i64 k ∧ Hid (∀ i (h : i < l.length), i < k → isDg l[i] = true) ∧ w.alloc (.cells z31 86) = wr) (fun i _ => l.length - (intOf i).toNat)
  case atStart => exact ⟨1, by omega, by omega, rfl, HF0.out, rfl⟩
  case round =>
    obtain ⟨k, hk, hk1, rfl, HA, hw⟩ := hrel
    subst hw
    obtain ⟨b, hb⟩ : ∃ b, b = (decide (k < l.length) && isDg (l.getD k 0)) := ⟨_, rfl⟩
    have HBB := hid hb
    clear hb
    go_upto_region 15 with fail
    go_cut [84] from 75 to 84 (fun v wx => v = .bool b ∧ wx = w.alloc (.cells z31 86))
    case first =>
      by_cases hlt : k < l.length
      · have hkI : (k : Int) < l.length := by omega
        have hi := idx l k hlt
        rw [← getD_at hlt] at hi
        have hb : b = isDg (l.getD k 0) := by rw [HBB.out, decide_eq_true hlt]; rfl
        generalize l.getD k 0 = d at *
        subst hb
        go_wp2_with (go_at_call 83; refine (rDg_any _ _).mono ?_; rintro e w3 ⟨rfl, hw3⟩; replace hw3 := hw3.symm; subst hw3)
        go_meet
        exact ⟨rfl, rfl⟩
      · have hkI : ¬ (k : Int) < l.length := by omega
        have hb : b = false := by rw [HBB.out, decide_eq_false hlt]; rfl
        subst hb
        go_wp2_with fail
        go_meet
        exact ⟨rfl, rfl⟩
    case rest =>
      obtain ⟨hu, hwc⟩ := hcut
      subst hu
      subst hwc
      cases b with
      | true =>
        have hlt : k < l.length := by
          apply Classical.byContradiction; intro h
          have := HBB.out; rw [decide_eq_false h] at this; cases this
        have hdk : isDg l[k] = true := by
          have := HBB.out; rw [decide_eq_true hlt, getD_at hlt] at this; simpa using this.symm
        have HDK := hid hdk
        clear hdk
        go_wp2_with fail
        go_roundw
        case rel =>
          refine ⟨k + 1, by omega, by omega, by go_num, ?_, by first | rfl | trivial⟩
          intro i h hik
          rcases Nat.lt_or_ge i k with h9 | h9
          · exact HA.out i h h9
          · obtain rfl : i = k := by omega
            exact HDK.out
        case measure => simp [intOf]; omega
      | false =>
        have hstop : k = l.length ∨ ∃ h : k < l.length, isDg l[k] = false := by
          by_cases hlt : k < l.length
          · right
            refine ⟨hlt, ?_⟩
            have := HBB.out; rw [decide_eq_true hlt, getD_at hlt] at this; simpa using this.symm
          · left; omega
        have HM := spanN_is isDg l k (by omega) HA.out hstop
        have HR := HNR.out k HM (by omega)
        rw [wd_stop l k (by omega) HA.out] at HR
        have hall := spanN_take isDg l
        rw [HM] at hall
        have HRN := hid (fun w => rnum_any false (l.take k) hall (by rw [List.length_take]; omega) (by rw [List.length_take]; omega) w)
        have hst := slT l k (by omega)
        have hsE := St_size (l.take k)
        have hEl : (l.take k).length = k := by rw [List.length_take]; omega
        have hiE := idx (l.take k) 0 (by omega)
        simp only [Int.natCast_zero] at hiE
        rw [HTK.out k (by omega)] at hiE
        rw [hEl] at hsE
        have HRN2 : Hid (∀ w, Calls Try.prog 84 #[.string (St (l.take k))] w (RNumP false (dval (l.take k)) w)) := HRN.out
        clear HRN hstop HM hall HA HBB HNR HTK hEl HF0
        generalize l.take k = E at *
        obtain ⟨nz, hnz⟩ : ∃ nz, nz = (decide (c.toNat = 48) && decide (1 < k)) := ⟨_, rfl⟩
        obtain ⟨bad, hbad⟩ : ∃ bad, bad = (nz || decide (19 < k) || (decide (k < l.length) && isWd (l.getD k 0))) := ⟨_, rfl⟩
        have HR2 := hid (show numS l = if bad then none else (numV false (dval E)).map (fun v => (⟨2, [], v, 0⟩, k)) by
          rw [HR, hbad, hnz]
          have e1 : decide ((some c : Option UInt8) = some 48) = decide (c.toNat = 48) := by
            apply decide_eq_decide.2
            constructor
            · intro h; cases h; rfl
            · intro h; rw [UInt8.toNat_inj.1 (show c.toNat = (48 : UInt8).toNat from h)]
          rw [e1, Nat.add_zero, Bool.not_not])
        have HNZ := hid hnz
        have HBAD := hid hbad
        clear HR hnz hbad
        go_upto_region 20 with fail
        go_cut [9] from 95 to 107 (fun v wx => v = .bool nz ∧ wx = w.alloc (.cells z31 86))
        case first =>
          by_cases h48 : c.toNat = 48
          · have b48 : ((c.toNat : Int) == 48) = true := beq_iff_eq.2 (by omega)
            have H48 := hid h48
            by_cases hk2 : 1 < k
            · have hk2I : 1 < (k : Int) := by omega
              have e : nz = true := by rw [HNZ.out]; simp [h48, hk2]
              clear h48
              subst e
              go_wp2_with fail
              go_meet
              exact ⟨rfl, rfl⟩
            · have hk2I : ¬ 1 < (k : Int) := by omega
              have e : nz = false := by rw [HNZ.out]; simp [hk2]
              clear h48
              subst e
              go_wp2_with fail
              go_meet
              exact ⟨rfl, rfl⟩
          · have h48I : ¬ (c.toNat : Int) = 48 := by omega
            have e : nz = false := by rw [HNZ.out]; simp [h48]
            have b48 : ((c.toNat : Int) == 48) = false := beq_eq_false_iff_ne.2 h48I
            subst e
            go_wp2_with fail
            go_meet
            exact ⟨rfl, rfl⟩
        case rest =>
          obtain ⟨hu, hwc⟩ := hcut
          subst hu
          subst hwc
          go_upto_region 21 with fail
          go_cut [125] from 108 to 125 (fun v wx => v = .bool bad ∧ wx = w.alloc (.cells z31 86))
          case first =>
            cases nz with
            | true =>
              have e : bad = true := by rw [HBAD.out]; rfl
              subst e
              go_wp2_with fail
              go_meet
              exact ⟨rfl, rfl⟩
            | false =>
              by_cases h19 : 19 < k
              · have h19I : 19 < (k : Int) := by omega
                have e : bad = true := by rw [HBAD.out]; simp [h19]
                subst e
                go_wp2_with fail
                go_meet
                exact ⟨rfl, rfl⟩
              · have h19I : ¬ 19 < (k : Int) := by omega
                by_cases hlt : k < l.length
                · have hkI : (k : Int) < l.length := by omega
                  have hi := idx l k hlt
                  rw [← getD_at hlt] at hi
                  have e : bad = isWd (l.getD k 0) := by rw [HBAD.out]; simp [h19, hlt]
                  generalize l.getD k 0 = d at *
                  subst e
                  go_wp2_with (go_at_call 81; refine (rWd_any _ _).mono ?_; rintro e w3 ⟨rfl, hw3⟩; replace hw3 := hw3.symm; subst hw3)
                  go_meet
                  exact ⟨rfl, rfl⟩
                · have hkI : ¬ (k : Int) < l.length := by omega
                  have e : bad = false := by rw [HBAD.out]; simp [h19, hlt]
                  subst e
                  go_wp2_with fail
                  go_meet
                  exact ⟨rfl, rfl⟩
          case rest =>
            obtain ⟨hu, hwc⟩ := hcut
            subst hu
            subst hwc
            cases bad with
            | true =>
              have HZ := hid (show numS l = none by rw [HR2.out]; rfl)
              go_wp2_with fail
              refine bodyPost_ret (v := .tuple #[TV 0 [] 0 0, .int .i64 0]) (by simp [results, Try.results51, go_sem]; rfl) rfl ⟨⟨0, [], 0, 0, 0, rfl, fun _ => rfl, fun t q h => ?_⟩, by go_grown⟩
              rw [HZ.out] at h; cases h
            | false =>
              have HZ := hid (show numS l = (numV false (dval E)).map (fun v => (⟨2, [], v, 0⟩, k)) by rw [HR2.out]; rfl)
              generalize dval E = v at *
              cases hv : numV false v with
              | none =>
                go_wp2_with (go_at_call 84; refine (HRN2.out _).mono ?_; unfold RNumP; rintro e w3 ⟨⟨x, rfl, hx⟩, hw3⟩; replace hw3 := hw3.symm; subst hw3; clear hx; rw [hv])
                refine bodyPost_ret (v := .tuple #[TV 0 [] 0 0, .int .i64 0]) (by simp [results, Try.results51, go_sem]; rfl) rfl ⟨⟨0, [], 0, 0, 0, rfl, fun _ => rfl, fun t q h => ?_⟩, by go_grown⟩
                rw [HZ.out, hv] at h; cases h
              | some y =>
                go_wp2_with (go_at_call 84; refine (HRN2.out _).mono ?_; unfold RNumP; rintro e w3 ⟨⟨x, rfl, hx⟩, hw3⟩; replace hw3 := hw3.symm; subst hw3; have hxy := hx y hv; subst hxy; clear hx; rw [hv])
                refine bodyPost_ret (v := .tuple #[TV 2 [] x 0, .int .i64 (k : Int)]) (by simp [results, Try.results51, go_sem]; rfl) rfl ⟨⟨2, [], x, 0, (k : Int), rfl, fun h => ?_, fun t q h => ?_⟩, by go_grown⟩
                · rw [HZ.out, hv] at h; cases h
                · rw [HZ.out, hv] at h; cases h; exact ⟨rfl, rfl, rfl, rfl, rfl⟩
end Go.Proofs.Ytcidijjbcebcbaa
namespace Go.Proofs.Ytcidijjbcebcbaa
open Go.RowKit Go.Joins
set_option maxRecDepth 100000 in
set_option maxHeartbeats 1000000 in
theorem rone_nB (r : List UInt8) (hl : (r.length : Int) + 1 ≤ 2048) (h1 : 0 < r.length) (hd0 : isDg r[0] = true) (w : World) : Calls Try.prog 51 #[.string (St (45 :: r))] w (OneP (numS (45 :: r)) w) := by
  have hsz : (St (45 :: r)).size = r.length + 1 := St_size (45 :: r)
  have h1I : 0 < (r.length : Int) := by omega
  have h1J : 1 < (r.length : Int) + 1 := by omega
  have hi0 := idx (45 :: r) 0 (by simp)
  simp only [Int.natCast_zero, List.getElem_cons_zero, show (UInt8.toNat 45) = 45 from rfl, show ((45 : Nat) : Int) = 45 from rfl] at hi0
  have hi1 := idx (45 :: r) 1 (by simp; omega)
  simp only [List.getElem_cons_succ, show ((1 : Nat) : Int) = 1 from rfl] at hi1
  have hhd : r.head? = some r[0] := head_idx h1
  have HD0 := hid hd0
  have HNR := hid (fun m hm h0 => @num_ref (45 :: r) m hm h0)
  unfold badN at HNR
  rw [show sgn1 (45 :: r) = 1 from rfl, show digitsOf (45 :: r) = r from rfl, show neg1 (45 :: r) = true from rfl, hhd] at HNR
  have HTK := hid (show ∀ k (h : 0 < (r.take k).length), (r.take k)[0] = r[0] from fun k h => by rw [List.getElem_take])
  have HF0 := hid (show isDg (r.getD 0 0) = true by rw [getD_at h1]; exact hd0)
  generalize hc : r[0] = c at *
  clear hhd hd0
  have M1 : Hid True := hid trivial
  go_enter Try.func51, Try.ntmps51
  go_wp2_with (first
    | (go_at_call 80; refine (rLe_45 _).mono ?_; rintro e w2 ⟨rfl, hw2⟩; replace hw2 := hw2.symm; subst hw2)
    | (go_at_call 83; clear M1; refine (rDg_45 _).mono ?_; rintro e w2 ⟨rfl, hw2⟩; replace hw2 := hw2.symm; subst hw2)
    | (go_at_call 83; refine (rDg_any _ _).mono ?_; rintro e w2 ⟨rfl, hw2⟩; replace hw2 := hw2.symm; subst hw2; rw [HD0.out]))
  go_loopw [4] (fun i wr => ∃ k : Nat, (k : Int) ≤ r.length ∧ i = .int .i64 ((k : Int) + 1) ∧ Hid (∀ i (h : i < r.length), i < k → isDg r[i] = true) ∧ w.alloc (.cells z31 86) = wr) (fun i _ => r.length + 1 - (intOf i).toNat)
  case atStart => exact ⟨0, by omega, rfl, fun i h hi => by omega, rfl⟩
  case round =>
    obtain ⟨k, hk, rfl, HA, hw⟩ := hrel
    subst hw
    obtain ⟨b, hb⟩ : ∃ b, b = (decide (k < r.length) && isDg (r.getD k 0)) := ⟨_, rfl⟩
    have HBB := hid hb
    clear hb
    go_upto_region 15 with fail
    go_cut [84] from 75 to 84 (fun v wx => v = .bool b ∧ wx = w.alloc (.cells z31 86))
    case first =>
      by_cases hlt : k < r.length
      · have hkI : (k : Int) + 1 < (r.length : Int) + 1 := by omega
        have hkI2 : (k : Int) < r.length := by omega
        have hi := idx (45 :: r) (k + 1) (by simp; omega)
        simp only [List.getElem_cons_succ, Int.natCast_add, Int.natCast_one] at hi
        rw [← getD_at hlt] at hi
        have hb : b = isDg (r.getD k 0) := by rw [HBB.out, decide_eq_true hlt]; rfl
        generalize r.getD k 0 = d at *
        subst hb
        go_wp2_with (go_at_call 83; refine (rDg_any _ _).mono ?_; rintro e w3 ⟨rfl, hw3⟩; replace hw3 := hw3.symm; subst hw3)
        go_meet
        exact ⟨rfl, rfl⟩
      · have hkI : ¬ (k : Int) + 1 < (r.length : Int) + 1 := by omega
        have hkI2 : ¬ (k : Int) < r.length := by omega
        have hb : b = false := by rw [HBB.out, decide_eq_false hlt]; rfl
        subst hb
        go_wp2_with fail
        go_meet
        exact ⟨rfl, rfl⟩
    case rest =>
      obtain ⟨hu, hwc⟩ := hcut
      subst hu
      subst hwc
      cases b with
      | true =>
        have hlt : k < r.length := by
          apply Classical.byContradiction; intro h
          have := HBB.out; rw [decide_eq_false h] at this; cases this
        have hdk : isDg r[k] = true := by
          have := HBB.out; rw [decide_eq_true hlt, getD_at hlt] at this; simpa using this.symm
        have HDK := hid hdk
        clear hdk
        go_wp2_with fail
        go_roundw
        case rel =>
          refine ⟨k + 1, by omega, by go_num, ?_, by first | rfl | trivial⟩
          intro i h hik
          rcases Nat.lt_or_ge i k with h9 | h9
          · exact HA.out i h h9
          · obtain rfl : i = k := by omega
            exact HDK.out
        case measure => simp [intOf]; omega
      | false =>
        have hk0 : 0 < k := by
          apply Classical.byContradiction; intro h
          obtain rfl : k = 0 := by omega
          have := HBB.out; rw [decide_eq_true h1, HF0.out] at this; cases this
        have hk1 : (1 : Int) ≤ k := by omega
        have hstop : k = r.length ∨ ∃ h : k < r.length, isDg r[k] = false := by
          by_cases hlt : k < r.length
          · right
            refine ⟨hlt, ?_⟩
            have := HBB.out; rw [decide_eq_true hlt, getD_at hlt] at this; simpa using this.symm
          · left; omega
        have HM := spanN_is isDg r k (by omega) HA.out hstop
        have HR := HNR.out k HM (by omega)
        rw [wd_stop r k (by omega) HA.out] at HR
        have hall := spanN_take isDg r
        rw [HM] at hall
        have HRN := hid (fun w => rnum_t (r.take k) hall (by rw [List.length_take]; omega) (by rw [List.length_take]; omega) w)
        have hst := slT (45 :: r) (k + 1) (by simp; omega)
        simp only [List.take_succ_cons, Int.natCast_add, Int.natCast_one] at hst
        have hEl : (r.take k).length = k := by rw [List.length_take]; omega
        have hsE := St_size (r.take k)
        have hi45 := idx (45 :: r.take k) 0 (by simp)
        simp only [Int.natCast_zero, List.getElem_cons_zero, show (UInt8.toNat 45) = 45 from rfl, show ((45 : Nat) : Int) = 45 from rfl] at hi45
        have hsl := slF (45 :: r.take k) 1 (by simp)
        simp only [List.drop_succ_cons, List.drop_zero, show ((1 : Nat) : Int) = 1 from rfl] at hsl
        have hiE := idx (r.take k) 0 (by omega)
        simp only [Int.natCast_zero] at hiE
        rw [HTK.out k (by omega)] at hiE
        rw [hEl] at hsE
        clear hstop HM hall HA HBB HNR HTK hEl HF0
        generalize r.take k = E at *
        obtain ⟨nz, hnz⟩ : ∃ nz, nz = decide (c.toNat = 48) := ⟨_, rfl⟩
        obtain ⟨bad, hbad⟩ : ∃ bad, bad = (nz || decide (19 < k) || (decide (k < r.length) && isWd (r.getD k 0))) := ⟨_, rfl⟩
        have HR2 := hid (show numS (45 :: r) = if bad then none else (numV true (dval E)).map (fun v => (⟨2, [], v, 0⟩, k + 1)) by
          rw [HR, hbad, hnz]
          have e1 : decide ((some c : Option UInt8) = some 48) = decide (c.toNat = 48) := by
            apply decide_eq_decide.2
            constructor
            · intro h; cases h; rfl
            · intro h; rw [UInt8.toNat_inj.1 (show c.toNat = (48 : UInt8).toNat from h)]
          rw [e1, decide_eq_true (show 1 < k + 1 by omega), Bool.and_true, Bool.not_not])
        have HNZ := hid hnz
        have HBAD := hid hbad
        clear HR hnz hbad
        go_upto_region 20 with fail
        go_cut [9] from 95 to 107 (fun v wx => v = .bool nz ∧ wx = w.alloc (.cells z31 86))
        case first =>
          by_cases h48 : c.toNat = 48
          · have b48 : ((c.toNat : Int) == 48) = true := beq_iff_eq.2 (by omega)
            have e : nz = true := by rw [HNZ.out]; simp [h48]
            clear h48
            subst e
            by_cases hk2 : 1 < k
            · have hk2I : 1 < (k : Int) := by omega
              go_wp2_with fail
              go_meet
              exact ⟨rfl, rfl⟩
            · have hk2I : ¬ 1 < (k : Int) := by omega
              go_wp2_with fail
              go_meet
              exact ⟨rfl, rfl⟩
          · have h48I : ¬ (c.toNat : Int) = 48 := by omega
            have e : nz = false := by rw [HNZ.out]; simp [h48]
            have b48 : ((c.toNat : Int) == 48) = false := beq_eq_false_iff_ne.2 h48I
            subst e
            go_wp2_with fail
            go_meet
            exact ⟨rfl, rfl⟩
        case rest =>
          obtain ⟨hu, hwc⟩ := hcut
          subst hu
          subst hwc
          go_upto_region 21 with fail
          go_cut [125] from 108 to 125 (fun v wx => v = .bool bad ∧ wx = w.alloc (.cells z31 86))
          case first =>
            cases nz with
            | true =>
              have e : bad = true := by rw [HBAD.out]; rfl
              subst e
              go_wp2_with fail
              go_meet
              exact ⟨rfl, rfl⟩
            | false =>
              by_cases h19 : 19 < k
              · have h19I : 19 < (k : Int) := by omega
                have e : bad = true := by rw [HBAD.out]; simp [h19]
                subst e
                go_wp2_with fail
                go_meet
                exact ⟨rfl, rfl⟩
              · have h19I : ¬ 19 < (k : Int) := by omega
                by_cases hlt : k < r.length
                · have hkI : (k : Int) + 1 < (r.length : Int) + 1 := by omega
                  have hkI2 : (k : Int) < r.length := by omega
                  have hi := idx (45 :: r) (k + 1) (by simp; omega)
                  simp only [List.getElem_cons_succ, Int.natCast_add, Int.natCast_one] at hi
                  rw [← getD_at hlt] at hi
                  have e : bad = isWd (r.getD k 0) := by rw [HBAD.out]; simp [h19, hlt]
                  generalize r.getD k 0 = d at *
                  subst e
                  go_wp2_with (go_at_call 81; refine (rWd_any _ _).mono ?_; rintro e w3 ⟨rfl, hw3⟩; replace hw3 := hw3.symm; subst hw3)
                  go_meet
                  exact ⟨rfl, rfl⟩
                · have hkI : ¬ (k : Int) + 1 < (r.length : Int) + 1 := by omega
                  have hkI2 : ¬ (k : Int) < r.length := by omega
                  have e : bad = false := by rw [HBAD.out]; simp [h19, hlt]
                  subst e
                  go_wp2_with fail
                  go_meet
                  exact ⟨rfl, rfl⟩
          case rest =>
            obtain ⟨hu, hwc⟩ := hcut
            subst hu
            subst hwc
            cases bad with
            | true =>
              have HZ := hid (show numS (45 :: r) = none by rw [HR2.out]; rfl)
              go_wp2_with fail
              refine bodyPost_ret (v := .tuple #[TV 0 [] 0 0, .int .i64 0]) (by simp [results, Try.results51, go_sem]; rfl) rfl ⟨⟨0, [], 0, 0, 0, rfl, fun _ => rfl, fun t q h => ?_⟩, by go_grown⟩
              rw [HZ.out] at h; cases h
            | false =>
              have HZ := hid (show numS (45 :: r) = (numV true (dval E)).map (fun v => (⟨2, [], v, 0⟩, k + 1)) by rw [HR2.out]; rfl)
              generalize dval E = v at *
              cases hv : numV true v with
              | none =>
                go_wp2_with (go_at_call 84; refine (HRN.out _).mono ?_; unfold RNumP; rintro e w3 ⟨⟨x, rfl, hx⟩, hw3⟩; replace hw3 := hw3.symm; subst hw3; clear hx; rw [hv])
                refine bodyPost_ret (v := .tuple #[TV 0 [] 0 0, .int .i64 0]) (by simp [results, Try.results51, go_sem]; rfl) rfl ⟨⟨0, [], 0, 0, 0, rfl, fun _ => rfl, fun t q h => ?_⟩, by go_grown⟩
                rw [HZ.out, hv] at h; cases h
              | some y =>
                go_wp2_with (go_at_call 84; refine (HRN.out _).mono ?_; unfold RNumP; rintro e w3 ⟨⟨x, rfl, hx⟩, hw3⟩; replace hw3 := hw3.symm; subst hw3; have hxy := hx y hv; subst hxy; clear hx; rw [hv])
                refine bodyPost_ret (v := .tuple #[TV 2 [] x 0, .int .i64 ((k : Int) + 1)]) (by simp [results, Try.results51, go_sem]; rfl) rfl ⟨⟨2, [], x, 0, (k : Int) + 1, rfl, fun h => ?_, fun t q h => ?_⟩, by go_grown⟩
                · rw [HZ.out, hv] at h; cases h
                · rw [HZ.out, hv] at h; cases h; exact ⟨rfl, rfl, rfl, rfl, rfl⟩
theorem rone_any (l : List UInt8) (hl : (l.length : Int) ≤ 2048) (h1 : 0 < l.length) (w : World) : Calls Try.prog 51 #[.string (St l)] w (OneP (firstS l) w) := by
  cases hle : isLe l[0] with
  | true => rw [firstS_w h1 hle]; exact rone_w l hl h1 hle w
  | false =>
    by_cases h34 : l[0].toNat = 34
    · rw [firstS_t h1 h34]; exact rone_t l hl h1 h34 w
    · cases hd : isDg l[0] with
      | true => rw [firstS_n h1 hle (.inr hd)]; exact rone_nA l hl h1 hd w
      | false =>
        by_cases h45 : l[0].toNat = 45 ∧ ∃ h2 : 1 < l.length, isDg l[1] = true
        · obtain ⟨h45, h2, hd1⟩ := h45
          rw [firstS_n h1 hle (.inl h45)]
          obtain ⟨c, r, rfl⟩ : ∃ c r, l = c :: r := by
            cases l with
            | nil => simp at h1
            | cons c r => exact ⟨c, r, rfl⟩
          obtain rfl : c = 45 := UInt8.toNat_inj.1 h45
          exact rone_nB r (by simpa using hl) (by simpa using h2) hd1 w
        · have hO : Other l := fun _ => ⟨hle, h34, hd, fun h5 h2 => by
            cases hx : isDg l[1] with
            | false => rfl
            | true => exact absurd ⟨h5, h2, hx⟩ h45⟩
          rw [first_other h1 hO]; exact rone_s l hl h1 hO w
end Go.Proofs.Ytcidijjbcebcbaa
namespace Go.Proofs.Ytcidijjbcebcbaa
open Go.RowKit Go.Joins
theorem join_bl {l : List UInt8} {ts : List Tk} {k : Nat} (h : lexA 0 l = joinT ts (lexA k (l.drop k))) (hk : k < l.length) (hb : isBl l[k] = true) : lexA 0 l = joinT ts (lexA (k + 1) (l.drop (k + 1))) := by
  rw [drop_at hk] at h
  rw [h, lexA_bl k _ hb]
/-- The loop's state: how far, which tokens. -/
def RLq (w wr : World) (l : List UInt8) (v : Value) (k : Nat) (ts : List Tk) : Prop :=
  lexA 0 l = joinT ts (lexA k (l.drop k)) ∧ ts.length ≤ k ∧ Tr w.heap.size wr v ts ∧ Below w.heap.size w wr
set_option maxRecDepth 100000 in
set_option maxHeartbeats 1000000 in
theorem rlex_any (l : List UInt8) (hl : (l.length : Int) ≤ 140737488355328) (w : World) : Calls Try.prog 24 #[.string (St l)] w (LexP l w) := by
  have hsz := St_size l
  by_cases h2048 : 2048 < l.length
  · have hI : 2048 < (l.length : Int) := by omega
    have HO := hid (lexO_long h2048)
    clear h2048
    go_enter Try.func24, Try.ntmps24
    go_wp2_with fail
    refine bodyPost_ret (v := .tuple #[.slice none 0 0, .int .i64 0, .int .i64 2]) (by simp [results, Try.results24, go_sem]) rfl ?_
    unfold LexP; rw [HO.out]
    exact ⟨_, rfl, Tr.nil _ _, Below.refl _ _⟩
  · have hI : ¬ 2048 < (l.length : Int) := by omega
    have HLong := hid h2048
    have hlI : (l.length : Int) ≤ 2048 := by omega
    clear h2048
    have HJ := hid (show lexA 0 l = joinT [] (lexA 0 (l.drop 0)) by simp [joinT]; cases lexA 0 l <;> rfl)
    go_enter Try.func24, Try.ntmps24
    go_wp2_with fail
    go_loopw [5, 6] (fun v i wr => ∃ (k : Nat) (ts : List Tk), (k : Int) ≤ l.length ∧ i = .int .i64 k ∧ Hid (RLq w wr l v k ts)) (fun _ i _ => l.length - (intOf i).toNat)
    case atStart => exact ⟨0, [], by omega, rfl, HJ.out, Nat.zero_le _, Tr.nil _ _, Below.refl _ _⟩
    case round =>
      obtain ⟨k, ts, hk, rfl, HQ⟩ := hrel
      clear HJ
      by_cases hlt : k < l.length
      · have HLT := hid hlt
        have hkI : (k : Int) < l.length := by omega
        have hi := idx l k hlt
        cases hb : isBl l[k] with
        | true =>
          have HJ := hid (join_bl HQ.out.1 hlt hb)
          have hbb := hb
          simp [isBl] at hbb
          generalize l[k] = c at *
          clear hb
          rcases hbb with h | h | h | h
          · have hcI : (c.toNat : Int) = 32 := by omega
            clear h
            go_wp2_with fail
            go_roundw
            case rel => exact ⟨k + 1, ts, by omega, by go_num, HJ.out, by have := HQ.out.2.1; omega, HQ.out.2.2.1, HQ.out.2.2.2⟩
            case measure => simp [intOf]; omega
          · have hcI : (c.toNat : Int) = 9 := by omega
            clear h
            go_wp2_with fail
            go_roundw
            case rel => exact ⟨k + 1, ts, by omega, by go_num, HJ.out, by have := HQ.out.2.1; omega, HQ.out.2.2.1, HQ.out.2.2.2⟩
            case measure => simp [intOf]; omega
          · have hcI : (c.toNat : Int) = 10 := by omega
            clear h
            go_wp2_with fail
            go_roundw
            case rel => exact ⟨k + 1, ts, by omega, by go_num, HJ.out, by have := HQ.out.2.1; omega, HQ.out.2.2.1, HQ.out.2.2.2⟩
            case measure => simp [intOf]; omega
          · have hcI : (c.toNat : Int) = 13 := by omega
            clear h
            go_wp2_with fail
            go_roundw
            case rel => exact ⟨k + 1, ts, by omega, by go_num, HJ.out, by have := HQ.out.2.1; omega, HQ.out.2.2.1, HQ.out.2.2.2⟩
            case measure => simp [intOf]; omega
        | false =>
          have HB := hid hb
          simp [isBl] at hb
          obtain ⟨n1, n2, n3, n4⟩ := hb
          have c1 : ¬ ((l[k].toNat : Nat) : Int) = 32 := by omega
          have c2 : ¬ ((l[k].toNat : Nat) : Int) = 9 := by omega
          have c3 : ¬ ((l[k].toNat : Nat) : Int) = 10 := by omega
          have c4 : ¬ ((l[k].toNat : Nat) : Int) = 13 := by omega
          have b1 : (((l[k].toNat : Nat) : Int) == 32) = false := beq_eq_false_iff_ne.2 c1
          have b2 : (((l[k].toNat : Nat) : Int) == 9) = false := beq_eq_false_iff_ne.2 c2
          have b3 : (((l[k].toNat : Nat) : Int) == 10) = false := beq_eq_false_iff_ne.2 c3
          have b4 : (((l[k].toNat : Nat) : Int) == 13) = false := beq_eq_false_iff_ne.2 c4
          have hs := slF l k (by omega)
          have hdl : (l.drop k).length = l.length - k := by simp
          have HFi := hid (fun w => rone_any (l.drop k) (by omega) (by omega) w)
          clear hdl n1 n2 n3 n4
          cases hf : firstS (l.drop k) with
          | none =>
            have HO := hid (lexO_bad HLong.out (join_bad HQ.out.1 hlt HB.out hf))
            rw [hf] at HFi
            clear hf HB
            generalize l[k] = c at *
            go_wp2_with (first
              | (go_at_call 51; refine (HFi.out _).mono ?_; unfold OneP; rintro e w3 ⟨⟨kk, s, n, a, m, rfl, h0, -⟩, hb⟩; have hm := h0 rfl; subst hm; have HBB := hid (HQ.out.2.2.2.trans (hb.mono HQ.out.2.2.2.size)); clear hb h0))
            refine bodyPost_ret (v := .tuple #[.slice none 0 0, .int .i64 (k : Int), .int .i64 110]) (by simp [results, Try.results24, go_sem]) rfl ?_
            unfold LexP; rw [HO.out]
            exact ⟨_, rfl, Tr.nil _ _, HBB.out.alloc HBB.out.size _⟩
          | some x =>
            obtain ⟨t, n⟩ := x
            have hp := firstS_pos hf
            rw [List.length_drop] at hp
            have HJ := hid (join_tok HQ.out.1 hlt HB.out hf)
            rw [hf] at HFi
            clear hf HB
            generalize l[k] = c at *
            have hnI : ¬ (n : Int) = 0 := by omega
            have hkn : (k : Int) + n ≤ l.length := by omega
            clear hp
            go_wp2_with (first
              | (go_at_call 51; refine (HFi.out _).mono ?_; unfold OneP; rintro e w3 ⟨⟨kk, s, nn, a, m, rfl, -, h0⟩, hb⟩; obtain ⟨rfl, rfl, rfl, rfl, rfl⟩ := h0 t n rfl; have HBB := hid (HQ.out.2.2.2.trans (hb.mono HQ.out.2.2.2.size)); have HTr := hid (HQ.out.2.2.1.on hb); clear hb h0 HFi)
              | (at_builtin; refine appT (t := { t with at_ := k }) rfl _ _ rfl rfl ((HTr.out.alloc _).alloc _) rfl (two_boxes _ _ _ _ _ _) (by have := HQ.out.2.1; omega) (by have := HBB.out.size; simp; omega) ?_; intro v1 w1 ho1 hb1; have HTr1 := hid ho1; have HBB1 := hid (below_two HBB.out hb1); clear ho1 hb1))
            go_roundw
            case rel =>
              exact ⟨k + n, ts ++ [{ t with at_ := k }], by omega, by go_num, HJ.out, by simp; have := HQ.out.2.1; omega, HTr1.out, HBB1.out⟩
            case measure => simp [intOf]; omega
      · have HO := hid (lexO_ok HLong.out (join_end HQ.out.1 hlt))
        go_wp2_with fail
        refine bodyPost_ret (v := .tuple #[u5, .int .i64 0, .int .i64 0]) (by simp [results, Try.results24, go_sem]) rfl ?_
        unfold LexP; rw [HO.out]
        exact ⟨_, rfl, HQ.out.2.2.1, HQ.out.2.2.2⟩
end Go.Proofs.Ytcidijjbcebcbaa
