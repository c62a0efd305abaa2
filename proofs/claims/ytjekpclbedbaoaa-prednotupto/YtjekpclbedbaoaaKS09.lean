/-
  What the reference's one returns: a number with a sign ahead.
  What the reference's Lex returns.
  The reference's reader: its error is a number that it keeps.
  The reference's reader: a word, a token, one more that is open.
-/
import Derived.Test.YtjekpclbedbaoaaKS07
import Derived.Test.YtjekpclbedbaoaaKS08
import Derived.Deep.QuietTactic
import Derived.BigQuiet
namespace Go.Proofs.Ytjekpclbedbaoaa
open Go.RowKit Go.Joins
set_option maxRecDepth 100000 in
set_option maxHeartbeats 1000000 in
theorem rone_nB (r : List UInt8) (hl : (r.length : Int) + 1 ≤ 2048) (h1 : 0 < r.length) (hd0 : isDg r[0] = true) (w : World) : Calls Try.prog 29 #[.string (St (45 :: r))] w (OneP (numS (45 :: r)) w) := by
  have hsz : (St (45 :: r)).size = r.length + 1 := St_size (45 :: r)
  have h1I : 0 < (r.length : Int) := by omega
  have h1J : 1 < (r.length : Int) + 1 := by omega
  have hi0 := idx (45 :: r) 0 (by simp)
  simp only [Int.natCast_zero, List.getElem_cons_zero, show (UInt8.toNat 45) = 45 from rfl, show ((45 : Nat) : Int) = 45 from rfl] at hi0
  have hi1 := idx (45 :: r) 1 (by simp; omega)
  simp only [List.getElem_cons_succ, show ((1 : Nat) : Int) = 1 from rfl] at hi1
  have hhd : r.head? = some r[0] := head_idx h1
  have HD0 := hid hd0
  have HNR := hid (fun m hm h0 => @num_ref (45 :: r) m hm h0)
  unfold badN at HNR
  rw [show sgn1 (45 :: r) = 1 from rfl, show digitsOf (45 :: r) = r from rfl, show neg1 (45 :: r) = true from rfl, hhd] at HNR
  have HTK := hid (show ∀ k (h : 0 < (r.take k).length), (r.take k)[0] = r[0] from fun k h => by rw [List.getElem_take])
  have HF0 := hid (show isDg (r.getD 0 0) = true by rw [getD_at h1]; exact hd0)
  generalize hc : r[0] = c at *
  clear hhd hd0
  have M1 : Hid True := hid trivial
  go_enter Try.func29, Try.ntmps29
  go_wp2_with (first
    | (go_at_call 48; refine (rLe_45 _).mono ?_; rintro e w2 ⟨rfl, hw2⟩; replace hw2 := hw2.symm; subst hw2)
    | (go_at_call 51; clear M1; refine (rDg_45 _).mono ?_; rintro e w2 ⟨rfl, hw2⟩; replace hw2 := hw2.symm; subst hw2)
    | (go_at_call 51; refine (rDg_any _ _).mono ?_; rintro e w2 ⟨rfl, hw2⟩; replace hw2 := hw2.symm; subst hw2; rw [HD0.out]))
  go_loopw [4] (fun i wr => ∃ k : Nat, (k : Int) ≤ r.length ∧ i = .int .i64 ((k : Int) + 1) ∧ Hid (∀ i (h : i < r.length), i < k → isDg r[i] = true) ∧ w.alloc (.cells z31 67) = wr) (fun i _ => r.length + 1 - (intOf i).toNat)
  case atStart => exact ⟨0, by omega, rfl, fun i h hi => by omega, rfl⟩
  case round =>
    obtain ⟨k, hk, rfl, HA, hw⟩ := hrel
    subst hw
    obtain ⟨b, hb⟩ : ∃ b, b = (decide (k < r.length) && isDg (r.getD k 0)) := ⟨_, rfl⟩
    have HBB := hid hb
    clear hb
    go_upto_region 15 with fail
    go_cut [84] from 75 to 84 (fun v wx => v = .bool b ∧ wx = w.alloc (.cells z31 67))
    case first =>
      by_cases hlt : k < r.length
      · have hkI : (k : Int) + 1 < (r.length : Int) + 1 := by omega
        have hkI2 : (k : Int) < r.length := by omega
        have hi := idx (45 :: r) (k + 1) (by simp; omega)
        simp only [List.getElem_cons_succ, Int.natCast_add, Int.natCast_one] at hi
        rw [← getD_at hlt] at hi
        have hb : b = isDg (r.getD k 0) := by rw [HBB.out, decide_eq_true hlt]; rfl
        generalize r.getD k 0 = d at *
        subst hb
        go_wp2_with (go_at_call 51; refine (rDg_any _ _).mono ?_; rintro e w3 ⟨rfl, hw3⟩; replace hw3 := hw3.symm; subst hw3)
        go_meet
        exact ⟨rfl, rfl⟩
      · have hkI : ¬ (k : Int) + 1 < (r.length : Int) + 1 := by omega
        have hkI2 : ¬ (k : Int) < r.length := by omega
        have hb : b = false := by rw [HBB.out, decide_eq_false hlt]; rfl
        subst hb
        go_wp2_with fail
        go_meet
        exact ⟨rfl, rfl⟩
    case rest =>
      obtain ⟨hu, hwc⟩ := hcut
      subst hu
      subst hwc
      cases b with
      | true =>
        have hlt : k < r.length := by
          apply Classical.byContradiction; intro h
          have := HBB.out; rw [decide_eq_false h] at this; cases this
        have hdk : isDg r[k] = true := by
          have := HBB.out; rw [decide_eq_true hlt, getD_at hlt] at this; simpa using this.symm
        have HDK := hid hdk
        clear hdk
        go_wp2_with fail
        go_roundw
        case rel =>
          refine ⟨k + 1, by omega, by go_num, ?_, by first | rfl | trivial⟩
          intro i h hik
          rcases Nat.lt_or_ge i k with h9 | h9
          · exact HA.out i h h9
          · obtain rfl : i = k := by omega
            exact HDK.out
        case measure => simp [intOf]; omega
      | false =>
        have hk0 : 0 < k := by
          apply Classical.byContradiction; intro h
          obtain rfl : k = 0 := by omega
          have := HBB.out; rw [decide_eq_true h1, HF0.out] at this; cases this
        have hk1 : (1 : Int) ≤ k := by omega
        have hstop : k = r.length ∨ ∃ h : k < r.length, isDg r[k] = false := by
          by_cases hlt : k < r.length
          · right
            refine ⟨hlt, ?_⟩
            have := HBB.out; rw [decide_eq_true hlt, getD_at hlt] at this; simpa using this.symm
          · left; omega
        have HM := spanN_is isDg r k (by omega) HA.out hstop
        have HR := HNR.out k HM (by omega)
        rw [wd_stop r k (by omega) HA.out] at HR
        have hall := spanN_take isDg r
        rw [HM] at hall
        have HRN := hid (fun w => rnum_t (r.take k) hall (by rw [List.length_take]; omega) (by rw [List.length_take]; omega) w)
        have hst := slT (45 :: r) (k + 1) (by simp; omega)
        simp only [List.take_succ_cons, Int.natCast_add, Int.natCast_one] at hst
        have hEl : (r.take k).length = k := by rw [List.length_take]; omega
        have hsE := St_size (r.take k)
        have hi45 := idx (45 :: r.take k) 0 (by simp)
        simp only [Int.natCast_zero, List.getElem_cons_zero, show (UInt8.toNat 45) = 45 from rfl, show ((45 : Nat) : Int) = 45 from rfl] at hi45
        have hsl := slF (45 :: r.take k) 1 (by simp)
        simp only [List.drop_succ_cons, List.drop_zero, show ((1 : Nat) : Int) = 1 from rfl] at hsl
        have hiE := idx (r.take k) 0 (by omega)
        simp only [Int.natCast_zero] at hiE
        rw [HTK.out k (by omega)] at hiE
        rw [hEl] at hsE
        clear hstop HM hall HA HBB HNR HTK hEl HF0
        generalize r.take k = E at *
        obtain ⟨nz, hnz⟩ : ∃ nz, nz = decide (c.toNat = 48) := ⟨_, rfl⟩
        obtain ⟨bad, hbad⟩ : ∃ bad, bad = (nz || decide (19 < k) || (decide (k < r.length) && isWd (r.getD k 0))) := ⟨_, rfl⟩
        have HR2 := hid (show numS (45 :: r) = if bad then none else (numV true (dval E)).map (fun v => (⟨2, [], v, 0⟩, k + 1)) by
          rw [HR, hbad, hnz]
          have e1 : decide ((some c : Option UInt8) = some 48) = decide (c.toNat = 48) := by
            apply decide_eq_decide.2
            constructor
            · intro h; cases h; rfl
            · intro h; rw [UInt8.toNat_inj.1 (show c.toNat = (48 : UInt8).toNat from h)]
          rw [e1, decide_eq_true (show 1 < k + 1 by omega), Bool.and_true, Bool.not_not])
        have HNZ := hid hnz
        have HBAD := hid hbad
        clear HR hnz hbad
        go_upto_region 20 with fail
        go_cut [9] from 95 to 107 (fun v wx => v = .bool nz ∧ wx = w.alloc (.cells z31 67))
        case first =>
          by_cases h48 : c.toNat = 48
          · have b48 : ((c.toNat : Int) == 48) = true := beq_iff_eq.2 (by omega)
            have e : nz = true := by rw [HNZ.out]; simp [h48]
            clear h48
            subst e
            by_cases hk2 : 1 < k
            · have hk2I : 1 < (k : Int) := by omega
              go_wp2_with fail
              go_meet
              exact ⟨rfl, rfl⟩
            · have hk2I : ¬ 1 < (k : Int) := by omega
              go_wp2_with fail
              go_meet
              exact ⟨rfl, rfl⟩
          · have h48I : ¬ (c.toNat : Int) = 48 := by omega
            have e : nz = false := by rw [HNZ.out]; simp [h48]
            have b48 : ((c.toNat : Int) == 48) = false := beq_eq_false_iff_ne.2 h48I
            subst e
            go_wp2_with fail
            go_meet
            exact ⟨rfl, rfl⟩
        case rest =>
          obtain ⟨hu, hwc⟩ := hcut
          subst hu
          subst hwc
          go_upto_region 21 with fail
          go_cut [125] from 108 to 125 (fun v wx => v = .bool bad ∧ wx = w.alloc (.cells z31 67))
          case first =>
            cases nz with
            | true =>
              have e : bad = true := by rw [HBAD.out]; rfl
              subst e
              go_wp2_with fail
              go_meet
              exact ⟨rfl, rfl⟩
            | false =>
              by_cases h19 : 19 < k
              · have h19I : 19 < (k : Int) := by omega
                have e : bad = true := by rw [HBAD.out]; simp [h19]
                subst e
                go_wp2_with fail
                go_meet
                exact ⟨rfl, rfl⟩
              · have h19I : ¬ 19 < (k : Int) := by omega
                by_cases hlt : k < r.length
                · have hkI : (k : Int) + 1 < (r.length : Int) + 1 := by omega
                  have hkI2 : (k : Int) < r.length := by omega
                  have hi := idx (45 :: r) (k + 1) (by simp; omega)
                  simp only [List.getElem_cons_succ, Int.natCast_add, Int.natCast_one] at hi
                  rw [← getD_at hlt] at hi
                  have e : bad = isWd (r.getD k 0) := by rw [HBAD.out]; simp [h19, hlt]
                  generalize r.getD k 0 = d at *
                  subst e
                  go_wp2_with (go_at_call 49; refine (rWd_any _ _).mono ?_; rintro e w3 ⟨rfl, hw3⟩; replace hw3 := hw3.symm; subst hw3)
                  go_meet
                  exact ⟨rfl, rfl⟩
                · have hkI : ¬ (k : Int) + 1 < (r.length : Int) + 1 := by omega
                  have hkI2 : ¬ (k : Int) < r.length := by omega
                  have e : bad = false := by rw [HBAD.out]; simp [h19, hlt]
                  subst e
                  go_wp2_with fail
                  go_meet
                  exact ⟨rfl, rfl⟩
          case rest =>
            obtain ⟨hu, hwc⟩ := hcut
            subst hu
            subst hwc
            cases bad with
            | true =>
              have HZ := hid (show numS (45 :: r) = none by rw [HR2.out]; rfl)
              go_wp2_with fail
              refine bodyPost_ret (v := .tuple #[TV 0 [] 0 0, .int .i64 0]) (by simp [results, Try.results29, go_sem]; rfl) rfl ⟨⟨0, [], 0, 0, 0, rfl, fun _ => rfl, fun t q h => ?_⟩, by go_grown⟩
              rw [HZ.out] at h; cases h
            | false =>
              have HZ := hid (show numS (45 :: r) = (numV true (dval E)).map (fun v => (⟨2, [], v, 0⟩, k + 1)) by rw [HR2.out]; rfl)
              generalize dval E = v at *
              cases hv : numV true v with
              | none =>
                go_wp2_with (go_at_call 52; refine (HRN.out _).mono ?_; unfold RNumP; rintro e w3 ⟨⟨x, rfl, hx⟩, hw3⟩; replace hw3 := hw3.symm; subst hw3; clear hx; rw [hv])
                refine bodyPost_ret (v := .tuple #[TV 0 [] 0 0, .int .i64 0]) (by simp [results, Try.results29, go_sem]; rfl) rfl ⟨⟨0, [], 0, 0, 0, rfl, fun _ => rfl, fun t q h => ?_⟩, by go_grown⟩
                rw [HZ.out, hv] at h; cases h
              | some y =>
                go_wp2_with (go_at_call 52; refine (HRN.out _).mono ?_; unfold RNumP; rintro e w3 ⟨⟨x, rfl, hx⟩, hw3⟩; replace hw3 := hw3.symm; subst hw3; have hxy := hx y hv; subst hxy; clear hx; rw [hv])
                refine bodyPost_ret (v := .tuple #[TV 2 [] x 0, .int .i64 ((k : Int) + 1)]) (by simp [results, Try.results29, go_sem]; rfl) rfl ⟨⟨2, [], x, 0, (k : Int) + 1, rfl, fun h => ?_, fun t q h => ?_⟩, by go_grown⟩
                · rw [HZ.out, hv] at h; cases h
                · rw [HZ.out, hv] at h; cases h; exact ⟨rfl, rfl, rfl, rfl, rfl⟩
theorem rone_any (l : List UInt8) (hl : (l.length : Int) ≤ 2048) (h1 : 0 < l.length) (w : World) : Calls Try.prog 29 #[.string (St l)] w (OneP (firstS l) w) := by
  cases hle : isLe l[0] with
  | true => rw [firstS_w h1 hle]; exact rone_w l hl h1 hle w
  | false =>
    by_cases h34 : l[0].toNat = 34
    · rw [firstS_t h1 h34]; exact rone_t l hl h1 h34 w
    · cases hd : isDg l[0] with
      | true => rw [firstS_n h1 hle (.inr hd)]; exact rone_nA l hl h1 hd w
      | false =>
        by_cases h45 : l[0].toNat = 45 ∧ ∃ h2 : 1 < l.length, isDg l[1] = true
        · obtain ⟨h45, h2, hd1⟩ := h45
          rw [firstS_n h1 hle (.inl h45)]
          obtain ⟨c, r, rfl⟩ : ∃ c r, l = c :: r := by
            cases l with
            | nil => simp at h1
            | cons c r => exact ⟨c, r, rfl⟩
          obtain rfl : c = 45 := UInt8.toNat_inj.1 h45
          exact rone_nB r (by simpa using hl) (by simpa using h2) hd1 w
        · have hO : Other l := fun _ => ⟨hle, h34, hd, fun h5 h2 => by
            cases hx : isDg l[1] with
            | false => rfl
            | true => exact absurd ⟨h5, h2, hx⟩ h45⟩
          rw [first_other h1 hO]; exact rone_s l hl h1 hO w
end Go.Proofs.Ytjekpclbedbaoaa
namespace Go.Proofs.Ytjekpclbedbaoaa
open Go.RowKit Go.Joins
theorem join_bl {l : List UInt8} {ts : List Tk} {k : Nat} (h : lexA 0 l = joinT ts (lexA k (l.drop k))) (hk : k < l.length) (hb : isBl l[k] = true) : lexA 0 l = joinT ts (lexA (k + 1) (l.drop (k + 1))) := by
  rw [drop_at hk] at h
  rw [h, lexA_bl k _ hb]
/-- The loop's state: how far, which tokens. -/
def RLq (w wr : World) (l : List UInt8) (v : Value) (k : Nat) (ts : List Tk) : Prop :=
  lexA 0 l = joinT ts (lexA k (l.drop k)) ∧ ts.length ≤ k ∧ Tr w.heap.size wr v ts ∧ Below w.heap.size w wr
set_option maxRecDepth 100000 in
set_option maxHeartbeats 1000000 in
theorem rlex_any (l : List UInt8) (hl : (l.length : Int) ≤ 140737488355328) (w : World) : Calls Try.prog 12 #[.string (St l)] w (LexP l w) := by
  have hsz := St_size l
  by_cases h2048 : 2048 < l.length
  · have hI : 2048 < (l.length : Int) := by omega
    have HO := hid (lexO_long h2048)
    clear h2048
    go_enter Try.func12, Try.ntmps12
    go_wp2_with fail
    refine bodyPost_ret (v := .tuple #[.slice none 0 0, .int .i64 0, .int .i64 2]) (by simp [results, Try.results12, go_sem]) rfl ?_
    unfold LexP; rw [HO.out]
    exact ⟨_, rfl, Tr.nil _ _, Below.refl _ _⟩
  · have hI : ¬ 2048 < (l.length : Int) := by omega
    have HLong := hid h2048
    have hlI : (l.length : Int) ≤ 2048 := by omega
    clear h2048
    have HJ := hid (show lexA 0 l = joinT [] (lexA 0 (l.drop 0)) by simp [joinT]; cases lexA 0 l <;> rfl)
    go_enter Try.func12, Try.ntmps12
    go_wp2_with fail
    go_loopw [5, 6] (fun v i wr => ∃ (k : Nat) (ts : List Tk), (k : Int) ≤ l.length ∧ i = .int .i64 k ∧ Hid (RLq w wr l v k ts)) (fun _ i _ => l.length - (intOf i).toNat)
    case atStart => exact ⟨0, [], by omega, rfl, HJ.out, Nat.zero_le _, Tr.nil _ _, Below.refl _ _⟩
    case round =>
      obtain ⟨k, ts, hk, rfl, HQ⟩ := hrel
      clear HJ
      by_cases hlt : k < l.length
      · have HLT := hid hlt
        have hkI : (k : Int) < l.length := by omega
        have hi := idx l k hlt
        cases hb : isBl l[k] with
        | true =>
          have HJ := hid (join_bl HQ.out.1 hlt hb)
          have hbb := hb
          simp [isBl] at hbb
          generalize l[k] = c at *
          clear hb
          rcases hbb with h | h | h | h
          · have hcI : (c.toNat : Int) = 32 := by omega
            clear h
            go_wp2_with fail
            go_roundw
            case rel => exact ⟨k + 1, ts, by omega, by go_num, HJ.out, by have := HQ.out.2.1; omega, HQ.out.2.2.1, HQ.out.2.2.2⟩
            case measure => simp [intOf]; omega
          · have hcI : (c.toNat : Int) = 9 := by omega
            clear h
            go_wp2_with fail
            go_roundw
            case rel => exact ⟨k + 1, ts, by omega, by go_num, HJ.out, by have := HQ.out.2.1; omega, HQ.out.2.2.1, HQ.out.2.2.2⟩
            case measure => simp [intOf]; omega
          · have hcI : (c.toNat : Int) = 10 := by omega
            clear h
            go_wp2_with fail
            go_roundw
            case rel => exact ⟨k + 1, ts, by omega, by go_num, HJ.out, by have := HQ.out.2.1; omega, HQ.out.2.2.1, HQ.out.2.2.2⟩
            case measure => simp [intOf]; omega
          · have hcI : (c.toNat : Int) = 13 := by omega
            clear h
            go_wp2_with fail
            go_roundw
            case rel => exact ⟨k + 1, ts, by omega, by go_num, HJ.out, by have := HQ.out.2.1; omega, HQ.out.2.2.1, HQ.out.2.2.2⟩
            case measure => simp [intOf]; omega
        | false =>
          have HB := hid hb
          simp [isBl] at hb
          obtain ⟨n1, n2, n3, n4⟩ := hb
          have c1 : ¬ ((l[k].toNat : Nat) : Int) = 32 := by omega
          have c2 : ¬ ((l[k].toNat : Nat) : Int) = 9 := by omega
          have c3 : ¬ ((l[k].toNat : Nat) : Int) = 10 := by omega
          have c4 : ¬ ((l[k].toNat : Nat) : Int) = 13 := by omega
          have b1 : (((l[k].toNat : Nat) : Int) == 32) = false := beq_eq_false_iff_ne.2 c1
          have b2 : (((l[k].toNat : Nat) : Int) == 9) = false := beq_eq_false_iff_ne.2 c2
          have b3 : (((l[k].toNat : Nat) : Int) == 10) = false := beq_eq_false_iff_ne.2 c3
          have b4 : (((l[k].toNat : Nat) : Int) == 13) = false := beq_eq_false_iff_ne.2 c4
          have hs := slF l k (by omega)
          have hdl : (l.drop k).length = l.length - k := by simp
          have HFi := hid (fun w => rone_any (l.drop k) (by omega) (by omega) w)
          clear hdl n1 n2 n3 n4
          cases hf : firstS (l.drop k) with
          | none =>
            have HO := hid (lexO_bad HLong.out (join_bad HQ.out.1 hlt HB.out hf))
            rw [hf] at HFi
            clear hf HB
            generalize l[k] = c at *
            go_wp2_with (first
              | (go_at_call 29; refine (HFi.out _).mono ?_; unfold OneP; rintro e w3 ⟨⟨kk, s, n, a, m, rfl, h0, -⟩, hb⟩; have hm := h0 rfl; subst hm; have HBB := hid (HQ.out.2.2.2.trans (hb.mono HQ.out.2.2.2.size)); clear hb h0))
            refine bodyPost_ret (v := .tuple #[.slice none 0 0, .int .i64 (k : Int), .int .i64 110]) (by simp [results, Try.results12, go_sem]) rfl ?_
            unfold LexP; rw [HO.out]
            exact ⟨_, rfl, Tr.nil _ _, HBB.out.alloc HBB.out.size _⟩
          | some x =>
            obtain ⟨t, n⟩ := x
            have hp := firstS_pos hf
            rw [List.length_drop] at hp
            have HJ := hid (join_tok HQ.out.1 hlt HB.out hf)
            rw [hf] at HFi
            clear hf HB
            generalize l[k] = c at *
            have hnI : ¬ (n : Int) = 0 := by omega
            have hkn : (k : Int) + n ≤ l.length := by omega
            clear hp
            go_wp2_with (first
              | (go_at_call 29; refine (HFi.out _).mono ?_; unfold OneP; rintro e w3 ⟨⟨kk, s, nn, a, m, rfl, -, h0⟩, hb⟩; obtain ⟨rfl, rfl, rfl, rfl, rfl⟩ := h0 t n rfl; have HBB := hid (HQ.out.2.2.2.trans (hb.mono HQ.out.2.2.2.size)); have HTr := hid (HQ.out.2.2.1.on hb); clear hb h0 HFi)
              | (at_builtin; refine appT (t := { t with at_ := k }) rfl _ _ rfl rfl ((HTr.out.alloc _).alloc _) rfl (two_boxes _ _ _ _ _ _) (by have := HQ.out.2.1; omega) (by have := HBB.out.size; simp; omega) ?_; intro v1 w1 ho1 hb1; have HTr1 := hid ho1; have HBB1 := hid (below_two HBB.out hb1); clear ho1 hb1))
            go_roundw
            case rel =>
              exact ⟨k + n, ts ++ [{ t with at_ := k }], by omega, by go_num, HJ.out, by simp; have := HQ.out.2.1; omega, HTr1.out, HBB1.out⟩
            case measure => simp [intOf]; omega
      · have HO := hid (lexO_ok HLong.out (join_end HQ.out.1 hlt))
        go_wp2_with fail
        refine bodyPost_ret (v := .tuple #[u5, .int .i64 0, .int .i64 0]) (by simp [results, Try.results12, go_sem]) rfl ?_
        unfold LexP; rw [HO.out]
        exact ⟨_, rfl, HQ.out.2.2.1, HQ.out.2.2.2⟩
end Go.Proofs.Ytjekpclbedbaoaa
namespace Go.Proofs.Ytjekpclbedbaoaa
open Go.RowKit Go.Joins

theorem below_drewN {B : Nat} {a w : World} (h : Below B a w) (n : Nat) : Below B a (w.drewN n) := ⟨h.os, h.tape, h.output, h.size, h.block⟩
/- The reader: its tokens (below B), the next one's number, its nodes, its error, how many are open. -/
structure Ry (B : Nat) (ts : List Tp) (w : World) (rb : Nat) (tv sv : Value) (E : Int) (o i : Nat) (qs : List Nd) : Prop where
  bB : B ≤ rb
  blk : w.heap[rb]? = some (.cells #[tv, .int .i64 (i : Int), sv, .int .i64 E, .int .i64 (o : Int)] 72 (0, 0))
  own : Own Nd.cells 19 44 B w sv qs
  each : ∀ q ∈ qs, NdIn B w q
  tok : SlAt (fun b => b < B) Tp.cells 4 w tv ts
  il : i ≤ ts.length
  tl : ts.length ≤ 1024
  ql : qs.length ≤ i
  ol : o ≤ 17
/- What a reading comes to, as the reader keeps it. -/
def Cm {α : Type} (r : Rs α) (x : α) (i : Nat) (E : Int) : Prop := (r = .bad i E ∧ ¬ E = 0) ∨ (r = .ok x i ∧ E = 0)
def lf {α : Type} (E : Int) (i : Nat) (r : Rs α) : Rs α := if E = 0 then r else .bad i E
theorem Cm.and {α β : Type} {r : Rs α} {f : α → Nat → Rs β} {x : α} {y : β} {i j : Nat} {E E' : Int} (h : Cm r x i E) (h2 : Cm (lf E i (f x i)) y j E') : Cm (r.and f) y j E' := by
  rcases h with ⟨h, hE⟩ | ⟨h, hE⟩
  · rw [h]; unfold lf at h2; rw [if_neg hE] at h2; exact h2
  · rw [h]; unfold lf at h2; rw [if_pos hE] at h2; exact h2
theorem Cm.lfand {α β : Type} {r : Rs α} {f : α → Nat → Rs β} {x : α} {y : β} {i0 i j : Nat} {E0 E E' : Int} (h : Cm (lf E0 i0 r) x i E) (h2 : Cm (lf E i (f x i)) y j E') : Cm (lf E0 i0 (r.and f)) y j E' := by
  unfold lf at h ⊢
  by_cases hE : E0 = 0
  · rw [if_pos hE] at h ⊢; exact h.and h2
  · rw [if_neg hE] at h ⊢
    rcases h with ⟨h, hE⟩ | ⟨h, hE⟩
    · cases h; unfold lf at h2; rw [if_neg hE] at h2; exact h2
    · cases h
theorem lf_bad {α : Type} {E : Int} {i : Nat} {r : Rs α} {x : α} (hE : ¬ E = 0) : Cm (lf E i r) x i E := .inl ⟨if_neg hE, hE⟩
section
variable {B : Nat} {ts : List Tp} {w w' : World} {rb : Nat} {tv sv : Value} {E : Int} {o i : Nat} {qs : List Nd}
theorem Ry.T_ge (h : Ry B ts w rb tv sv E o i qs) : ∀ k, Tq rb sv k → B ≤ k := by
  rintro k (rfl | hk)
  · exact h.bB
  · exact (h.own.at hk).1
theorem Ry.T_lt (h : Ry B ts w rb tv sv E o i qs) : ∀ k, Tq rb sv k → k < w.heap.size := by
  rintro k (rfl | hk)
  · exact lt_of_block h.blk
  · exact (h.own.at hk).2
theorem Ry.ne (h : Ry B ts w rb tv sv E o i qs) : ∀ g, sv.ownBlock = some g → g ≠ rb := fun g hg e => by
  obtain ⟨c, fz, hc⟩ := h.own.kind hg; rw [e, h.blk] at hc; cases hc
theorem Ry.tk (h : Ry B ts w rb tv sv E o i qs) : TK w (Tq rb sv) := by
  rintro k (rfl | hk) c t fz hc
  · rw [h.blk] at hc; cases hc; decide
  · obtain ⟨c', fz', hc'⟩ := h.own.kind hk; rw [hc'] at hc; cases hc; decide
theorem Ry.tkr (h : Ry B ts w rb tv sv E o i qs) : TK w (fun k => k = rb) := fun k e => h.tk k (.inl e)
theorem Ry.kp {T : Nat → Prop} (h : Ry B ts w rb tv sv E o i qs) (hk : Kp T w w') (ht : ∀ k, Tq rb sv k → ¬ T k) (hT : TK w T) (hB : ∀ k, T k → B ≤ k) : Ry B ts w' rb tv sv E o i qs :=
  ⟨h.bB, hk.blk h.blk (ht rb (.inl rfl)), h.own.kp hk (fun g hg => ht g (.inr hg)), fun q hq => (h.each q hq).kp hk hT, h.tok.kp hk (fun b hb hTb => by have := hB b hTb; omega), h.il, h.tl, h.ql, h.ol⟩
theorem Ry.on (h : Ry B ts w rb tv sv E o i qs) (hb : Below w.heap.size w w') : Ry B ts w' rb tv sv E o i qs := h.kp (T := fun _ => False) (Kp.of hb) (fun _ _ => id) (TK.no w) (fun _ h => h.elim)
theorem Ry.cell (h : Ry B ts w rb tv sv E o i qs) : ∀ j, w.cell? ⟨rb, j, none⟩ = #[tv, .int .i64 (i : Int), sv, .int .i64 E, .int .i64 (o : Int)][j]? := block_cell h.blk
theorem Ry.frozen (h : Ry B ts w rb tv sv E o i qs) : ∀ j, w.frozen? ⟨rb, j, none⟩ = false := block_frozen h.blk
theorem Ry.lt (h : Ry B ts w rb tv sv E o i qs) : rb < w.heap.size := lt_of_block h.blk
theorem Ry.put (h : Ry B ts w rb tv sv E o i qs) (hk : Kp (fun k => k = rb) w w') {E' : Int} {i' o' : Nat} (hb : w'.heap[rb]? = some (.cells #[tv, .int .i64 (i' : Int), sv, .int .i64 E', .int .i64 (o' : Int)] 72 (0, 0))) (hi : i' ≤ ts.length) (hq : qs.length ≤ i') (ho : o' ≤ 17) : Ry B ts w' rb tv sv E' o' i' qs :=
  ⟨h.bB, hb, h.own.kp hk (fun g hg e => h.ne g hg e), fun q hq => (h.each q hq).kp hk h.tkr, h.tok.kp hk (fun b hb e => by have := h.bB; omega), hi, h.tl, hq, ho⟩
theorem Ry.next (h : Ry B ts w rb tv sv E o i qs) (hi : i < ts.length) : Ry B ts (w.setCell ⟨rb, 1, none⟩ (.int .i64 ((i : Int) + 1))) rb tv sv E o (i + 1) qs :=
  h.put (Kp.set (T := fun k => k = rb) rfl _) (by have := block_set h.blk 1 (.int .i64 ((i : Int) + 1)); simpa using this) hi (by have := h.ql; omega) h.ol
theorem Ry.err (h : Ry B ts w rb tv sv E o i qs) (c : Int) : Ry B ts (w.setCell ⟨rb, 3, none⟩ (.int .i64 c)) rb tv sv c o i qs :=
  h.put (Kp.set (T := fun k => k = rb) rfl _) (by have := block_set h.blk 3 (.int .i64 c); simpa using this) h.il h.ql h.ol
theorem Ry.more (h : Ry B ts w rb tv sv E o i qs) (ho : o ≤ 16) : Ry B ts (w.setCell ⟨rb, 4, none⟩ (.int .i64 ((o : Int) + 1))) rb tv sv E (o + 1) i qs :=
  h.put (Kp.set (T := fun k => k = rb) rfl _) (by have := block_set h.blk 4 (.int .i64 ((o : Int) + 1)); simpa using this) h.il h.ql (by omega)
theorem Ry.less {o : Nat} (h : Ry B ts w rb tv sv E (o + 1) i qs) : Ry B ts (w.setCell ⟨rb, 4, none⟩ (.int .i64 (o : Int))) rb tv sv E o i qs :=
  h.put (Kp.set (T := fun k => k = rb) rfl _) (by have := block_set h.blk 4 (.int .i64 (o : Int)); simpa using this) h.il h.ql (by have := h.ol; omega)
set_option maxRecDepth 100000 in
set_option maxHeartbeats 1000000 in
theorem ris_any (h : Ry B ts w rb tv sv E o i qs) (x : List UInt8) : Calls Try.prog 72 #[dp rb, .string (St x)] w fun e w' => e = .returned (.bool (decide (E = 0) && isW ts i x)) ∧ Below w.heap.size w w' := by
  have k0 := h.cell
  have HT := hid h.tok
  have hil := h.il
  have htl := h.tl
  obtain ⟨p, cap, rfl, hc1, hc2⟩ := h.tok.form
  unfold maxLen at hc2
  have i0 : (0 : Int) ≤ i := by omega
  clear h
  by_cases hE : E = 0
  · subst hE
    generalize hln : ts.length = ln at *
    have HLn := hid hln
    clear hln
    by_cases hi : i < ln
    · have HI := hid (isW_here ts i x)
      have HH := hid (here_lt (ts := ts) (i := i) (by have := HLn.out; omega))
      obtain ⟨g, og, rfl, hg, hc⟩ := HT.out.at (j := i) (List.getElem?_eq_getElem (by have := HLn.out; omega))
      rw [HH.out] at HI
      generalize ts[i]'(by have := HLn.out; omega) = t at *
      have e0 : w.cell? ⟨g, og + i * 4, none⟩ = some (.int .i64 t.kind) := hc 0 _ rfl
      have e1 : w.cell? ⟨g, og + i * 4 + 1, none⟩ = some (.string (St t.s)) := hc 1 _ rfl
      have hs := St_dec t.s x
      have b1 : (t.kind == 1) = decide (t.kind = 1) := by rw [Bool.eq_iff_iff]; simp
      have b4 : (t.kind == 4) = decide (t.kind = 4) := by rw [Bool.eq_iff_iff]; simp
      have iI : (i : Int) < ln := by omega
      have dI : decide ((i : Int) < ln) = true := by simpa using iI
      clear hc hg HT HH
      generalize decide (t.kind = 1) = k1 at *
      generalize decide (t.kind = 4) = k4 at *
      generalize decide (t.s = x) = kx at *
      generalize isW ts i x = r at *
      cases k1 <;> cases k4 <;> cases kx
      all_goals
        (go_enter Try.func72, Try.ntmps72
         go_wp2_with fail
         go_quiet (fail)
         go_wp2
         go_ret
         exact ⟨by rw [HI.out]; rfl, below_drewN (Below.refl _ _) _⟩)
    · have HI : Hid (isW ts i x = false) := by
        show _ = _; cases hw : isW ts i x with
        | false => rfl
        | true => have := isW_lt hw; have := HLn.out; omega
      have iI : ¬ (i : Int) < ln := by omega
      have dI : decide ((i : Int) < ln) = false := by simpa using iI
      clear HT
      go_enter Try.func72, Try.ntmps72
      go_wp2_with fail
      go_quiet (fail)
      go_wp2
      go_ret
      exact ⟨by rw [HI.out]; rfl, below_drewN (Below.refl _ _) _⟩
  · have bE : (E == 0) = false := by simp [hE]
    have HE := hid hE
    clear HT hE
    go_enter Try.func72, Try.ntmps72
    go_wp2_with fail
    go_quiet (fail)
    go_wp2
    go_ret
    exact ⟨by have := HE.out; simp [this], below_drewN (Below.refl _ _) _⟩
end
end Go.Proofs.Ytjekpclbedbaoaa
namespace Go.Proofs.Ytjekpclbedbaoaa
open Go.RowKit Go.Joins

/- What a function that lays no nodes comes to. -/
def Y1 {α : Type} (B : Nat) (ts : List Tp) (rb : Nat) (tv sv : Value) (o : Nat) (qs : List Nd) (w : World) (val : World → α → Value → Prop) (r : Rs α) (e : Ending) (w' : World) : Prop :=
  Kp (fun k => k = rb) w w' ∧ ∃ x v E i, e = .returned v ∧ val w' x v ∧ Ry B ts w' rb tv sv E o i qs ∧ Cm r x i E
def isE (E : Int) (ts : List Tp) (i : Nat) (x : List UInt8) : Bool := decide (E = 0) && isW ts i x
theorem isE_lt {E : Int} {ts : List Tp} {i : Nat} {x : List UInt8} (h : isE E ts i x = true) : i < ts.length := by
  unfold isE at h; rw [Bool.and_eq_true] at h; exact isW_lt h.2
theorem isE_E {E : Int} {ts : List Tp} {i : Nat} {x : List UInt8} (h : isE E ts i x = true) : E = 0 := by
  unfold isE at h; rw [Bool.and_eq_true] at h; simpa using h.1
theorem isE_W {E : Int} {ts : List Tp} {i : Nat} {x : List UInt8} (h : isE E ts i x = true) : isW ts i x = true := by
  unfold isE at h; rw [Bool.and_eq_true] at h; exact h.2
section
variable {B : Nat} {ts : List Tp} {w w' : World} {rb : Nat} {tv sv : Value} {E : Int} {o i : Nat} {qs : List Nd}
set_option maxRecDepth 100000 in
set_option maxHeartbeats 1000000 in
theorem rsees_any (h : Ry B ts w rb tv sv E o i qs) (x : List UInt8) : Calls Try.prog 55 #[dp rb, .string (St x)] w fun e w' => e = .returned (.bool (isE E ts i x)) ∧ Ry B ts w' rb tv sv E o (if isE E ts i x then i + 1 else i) qs ∧ Kp (fun k => k = rb) w w' := by
  have HQ := hid h
  have HS := hid (ris_any h x)
  have hil : (i : Int) ≤ 1024 := by have := h.il; have := h.tl; omega
  have hi0 : (0 : Int) ≤ i := by omega
  clear h
  change Hid (Calls Try.prog 72 #[dp rb, .string (St x)] w fun e w' => e = .returned (.bool (isE E ts i x)) ∧ Below w.heap.size w w') at HS
  cases hw : isE E ts i x with
  | true =>
    have HI := hid (isE_lt hw)
    rw [hw] at HS
    clear hw
    go_enter Try.func55, Try.ntmps55
    go_wp2_with (go_at_call 72; refine HS.out.mono ?_; rintro e w1 ⟨rfl, hb⟩; have HB := hid hb; have HQ1 := hid (HQ.out.on hb); have k1 := HQ1.out.cell; have z1 := HQ1.out.frozen; clear hb)
    go_ret
    exact ⟨rfl, HQ1.out.next HI.out, (Kp.of HB.out).trans (Kp.set (T := fun k => k = rb) rfl _)⟩
  | false =>
    rw [hw] at HS
    clear hw
    go_enter Try.func55, Try.ntmps55
    go_wp2_with (go_at_call 72; refine HS.out.mono ?_; rintro e w1 ⟨rfl, hb⟩; have HB := hid hb; have HQ1 := hid (HQ.out.on hb); clear hb)
    go_ret
    exact ⟨rfl, HQ1.out, Kp.of HB.out⟩
def erS (E c : Int) : Int := if E = 0 then c else E
theorem erS_ne {E c : Int} (hc : ¬ c = 0) : ¬ erS E c = 0 := by unfold erS; split <;> assumption
theorem erS_lf {α : Type} {E : Int} {i : Nat} {x : α} : Cm (lf E i (.bad i 120 : Rs α)) x i (erS E 120) := by
  by_cases hE : E = 0
  · subst hE; exact .inl ⟨rfl, by decide⟩
  · have : erS E 120 = E := if_neg hE
    rw [this]; exact lf_bad hE
set_option maxRecDepth 100000 in
set_option maxHeartbeats 1000000 in
theorem rfail_any (h : Ry B ts w rb tv sv E o i qs) : Calls Try.prog 57 #[dp rb] w fun e w' => e = .returned (.tuple #[]) ∧ Ry B ts w' rb tv sv (erS E 120) o i qs ∧ Kp (fun k => k = rb) w w' := by
  have HQ := hid h
  have k0 := h.cell
  have z0 := h.frozen
  clear h
  by_cases hE : E = 0
  · subst hE
    go_enter Try.func57, Try.ntmps57
    go_wp2_with fail
    go_end0
    exact ⟨rfl, HQ.out.err 120, Kp.set (T := fun k => k = rb) rfl _⟩
  · have bE : (E == 0) = false := by simp [hE]
    have HE : Hid (erS E 120 = E) := if_neg hE
    clear hE
    go_enter Try.func57, Try.ntmps57
    go_wp2_with fail
    go_end0
    exact ⟨rfl, by rw [HE.out]; exact HQ.out, Kp.refl _ _⟩
set_option maxRecDepth 100000 in
set_option maxHeartbeats 1000000 in
theorem rwants_any (h : Ry B ts w rb tv sv E o i qs) (x : List UInt8) : Calls Try.prog 93 #[dp rb, .string (St x)] w (Y1 B ts rb tv sv o qs w vNone (lf E i (wantS ts x i))) := by
  have HS := hid (rsees_any h x)
  clear h
  cases hw : isE E ts i x with
  | true =>
    have HC : Hid (Cm (lf E i (wantS ts x i)) () (i + 1) 0) := .inr ⟨by rw [isE_E hw]; unfold lf wantS; rw [if_pos rfl, isE_W hw]; rfl, rfl⟩
    have HE := hid (isE_E hw)
    rw [hw] at HS
    clear hw
    go_enter Try.func93, Try.ntmps93
    go_wp2_with (go_at_call 55; refine HS.out.mono ?_; rintro e w1 ⟨rfl, hq, hk⟩; have HQ1 := hid hq; have HK1 := hid hk; clear hq hk)
    go_end0
    exact ⟨HK1.out, (), _, 0, i + 1, rfl, rfl, by have := HQ1.out; rw [HE.out] at this; exact this, HC.out⟩
  | false =>
    have HC : Hid (Cm (lf E i (wantS ts x i)) () i (erS E 120)) := by
      by_cases hE : E = 0
      · subst hE
        have hf : isW ts i x = false := by simpa [isE] using hw
        show Cm _ _ _ _
        unfold wantS; rw [hf]; exact erS_lf
      · have : erS E 120 = E := if_neg hE
        rw [this]; exact lf_bad hE
    rw [hw] at HS
    clear hw
    go_enter Try.func93, Try.ntmps93
    go_wp2_with (first
      | (go_at_call 55; refine HS.out.mono ?_; rintro e w1 ⟨rfl, hq, hk⟩; have HQ1 := hid hq; have HK1 := hid hk; clear hq hk)
      | (go_at_call 57; refine (rfail_any HQ1.out).mono ?_; rintro e w2 ⟨rfl, hq, hk⟩; have HQ2 := hid hq; have HK2 := hid hk; clear hq hk))
    go_end0
    exact ⟨HK1.out.trans HK2.out, (), _, _, i, rfl, rfl, HQ2.out, HC.out⟩
/- One more is open, behind the sign that stood there. -/
def DpP (B : Nat) (ts : List Tp) (rb : Nat) (tv sv : Value) (E : Int) (o i : Nat) (qs : List Nd) (w : World) (e : Ending) (w' : World) : Prop :=
  e = .returned (.tuple #[]) ∧ Kp (fun k => k = rb) w w' ∧ ((¬ E = 0 ∧ Ry B ts w' rb tv sv E (o + 1) i qs) ∨ (E = 0 ∧ 16 ≤ o ∧ Ry B ts w' rb tv sv 2 (o + 1) (i - 1) qs) ∨ (E = 0 ∧ o < 16 ∧ Ry B ts w' rb tv sv 0 (o + 1) i qs))
theorem Ry.back1 (h : Ry B ts w rb tv sv E o i qs) (hi : qs.length + 1 ≤ i) (ho : o ≤ 16) : Ry B ts (((w.setCell ⟨rb, 3, none⟩ (.int .i64 2)).setCell ⟨rb, 1, none⟩ (.int .i64 ((i : Int) - 1))).setCell ⟨rb, 4, none⟩ (.int .i64 ((o : Int) + 1))) rb tv sv 2 (o + 1) (i - 1) qs := by
  have e1 : ((i - 1 : Nat) : Int) = (i : Int) - 1 := by omega
  refine h.put (((Kp.set (T := fun k => k = rb) rfl _).trans (Kp.set (T := fun k => k = rb) rfl _)).trans (Kp.set (T := fun k => k = rb) rfl _)) ?_ (by have := h.il; omega) (by omega) (by omega)
  have := block_set (block_set (block_set h.blk 3 (.int .i64 2)) 1 (.int .i64 ((i : Int) - 1))) 4 (.int .i64 ((o : Int) + 1))
  rw [e1]; simpa using this
set_option maxRecDepth 100000 in
set_option maxHeartbeats 1000000 in
theorem rdeeper_any (h : Ry B ts w rb tv sv E o i qs) (hl : qs.length + 1 ≤ i) (ho : o ≤ 16) : Calls Try.prog 92 #[dp rb] w (DpP B ts rb tv sv E o i qs w) := by
  have HQ := hid h
  have HL := hid hl
  have HO := hid ho
  have k0 := h.cell
  have z0 := h.frozen
  have hi1 : (1 : Int) ≤ i := by omega
  have hil : (i : Int) ≤ 1024 := by have := h.il; have := h.tl; omega
  have ho0 : (0 : Int) ≤ o := by omega
  have ho2 : (o : Int) ≤ 16 := by omega
  clear h hl ho
  by_cases hE : E = 0
  · subst hE
    by_cases hd : 16 ≤ o
    · have dI : decide ((o : Int) ≥ 16) = true := by simp; omega
      have d2 : decide ((16 : Int) ≤ o) = true := by simp; omega
      go_enter Try.func92, Try.ntmps92
      go_wp2_with fail
      go_end0
      exact ⟨rfl, ((Kp.set (T := fun k => k = rb) rfl _).trans (Kp.set (T := fun k => k = rb) rfl _)).trans (Kp.set (T := fun k => k = rb) rfl _), .inr (.inl ⟨rfl, hd, HQ.out.back1 HL.out HO.out⟩)⟩
    · have dI : decide ((o : Int) ≥ 16) = false := by simp; omega
      have d2 : decide ((16 : Int) ≤ o) = false := by simp; omega
      go_enter Try.func92, Try.ntmps92
      go_wp2_with fail
      go_end0
      exact ⟨rfl, Kp.set (T := fun k => k = rb) rfl _, .inr (.inr ⟨rfl, by omega, HQ.out.more HO.out⟩)⟩
  · have bE : (E == 0) = false := by simp [hE]
    have HE := hid hE
    clear hE
    go_enter Try.func92, Try.ntmps92
    go_wp2_with fail
    go_end0
    exact ⟨rfl, Kp.set (T := fun k => k = rb) rfl _, .inl ⟨HE.out, HQ.out.more HO.out⟩⟩
end
end Go.Proofs.Ytjekpclbedbaoaa
