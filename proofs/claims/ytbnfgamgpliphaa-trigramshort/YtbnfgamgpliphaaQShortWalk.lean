/-
  The walk of catchmentlaw09.TrigramShort.
-/
import Derived.Test.YtbnfgamgpliphaaQPartsWalk
namespace Go.Proofs.Ytbnfgamgpliphaa
open Go.RowKit Go.Sort

theorem about_wit (x p y : ByteArray) : wit (ofS (xsOf p)) (ofS (xsOf (x ++ p ++ y))) = true := by
  rw [xsOf_app, xsOf_app, List.append_assoc]; exact part_wit _ _ _
set_option maxRecDepth 100000 in
set_option maxHeartbeats 1000000 in
theorem short_any (s x y : ByteArray) (hs : s.size ≤ 281474976710656) (hx : x.size ≤ 281474976710656) (hy : y.size ≤ 281474976710656) (w : World) : Calls Try.prog 7 #[.string s, .string x, .string y] w fun e w' => e = .returned (.bool true) ∧ Below w.heap.size w w' := by
  have hsI : (s.size : Int) ≤ 281474976710656 := by omega
  have hxI : (x.size : Int) ≤ 281474976710656 := by omega
  have hyI : (y.size : Int) ≤ 281474976710656 := by omega
  have HSx : Hid (s.size ≤ 1125899906842624) := by show _ ≤ _; omega
  clear hs hx hy
  go_enter Try.func7, Try.ntmps7
  go_wp2_with (first
    | (go_at_call 8; refine (shown_any _).mono ?_; rintro e w1 ⟨rfl, hb⟩; have HB := hid hb; clear hb))
  go_loopw [8] (fun i wr => ∃ k : Nat, k ≤ 100 ∧ i = .int .i64 k ∧ Hid (Below w.heap.size w wr)) (fun i _ => 100 - (intOf i).toNat)
  case atStart => exact ⟨0, by omega, rfl, HB.out⟩
  case round =>
    clear HB
    obtain ⟨k, hk, rfl, HB⟩ := hrel
    have hkI : (k : Int) ≤ 100 := by omega
    by_cases hlt : k + 3 ≤ s.size ∧ k < 100
    · obtain ⟨h1, h2⟩ := hlt
      have h1I : (k : Int) + 3 ≤ (s.size : Int) := by omega
      have h2I : (k : Int) < 100 := by omega
      have HK := hid h2
      have hd : decide ((k : Int) < 100) = true := decide_eq_true h2I
      obtain ⟨p, hp⟩ : ∃ p, s.extract k (k + 3) = p := ⟨_, rfl⟩
      have hsl := slice_str (A := (k : Int)) (B := (k : Int) + 3) (a := k) (b := k + 3) rfl (by omega) (by omega) h1 hp
      have hps : p.size = 3 := by rw [← hp, ByteArray.size_extract]; omega
      have hpI : (p.size : Int) = 3 := by omega
      have HP : Hid (p.size ≤ 1125899906842624) := by show _ ≤ _; omega
      have HXY : Hid ((x ++ p ++ y).size ≤ 1125899906842624) := by show _ ≤ _; rw [ByteArray.size_append, ByteArray.size_append]; omega
      have HC := hid (cnt_three (xs := xsOf p) (by rw [xsOf_len]; exact hps))
      have HW := hid (about_wit x p y)
      obtain ⟨D, hD⟩ : ∃ D, ofS (xsOf p) = D := ⟨_, rfl⟩
      obtain ⟨A, hA⟩ : ∃ A, ofS (xsOf (x ++ p ++ y)) = A := ⟨_, rfl⟩
      rw [hD] at HC HW
      rw [hA] at HW
      have HD := hid hD
      have HA := hid hA
      clear hD hA hp hps h1 h2 hk
      go_wp2_with (first
        | (go_at_call 9; refine (of_is HP.out HD.out _).mono ?_; rintro e w2 ⟨rfl, hb⟩; replace HB := hid (below_on (below_on HB.out hb) ((Below.refl _ w2).alloc (Nat.le_refl _) (.cells (c4 D) 25 (0, 0)))); have K2 := hid (Fb.made w2 D); clear hb))
      generalize w2.alloc _ = W2 at *
      generalize w2.heap.size = n2 at *
      have q2 := quiet_cells K2.out
      refine wp_region_quiet_below (by kernel_rfl) (by kernel_rfl) ?_
      repeat (go_big_quiet_step (first
        | (go_at_call 17; exact Calls.regrown_of (count_is HC.out _))
        | (go_at_call 9; exact Calls.regrown_of (of_is HXY.out HA.out _))
        | (go_at_call 15; exact Calls.regrown_of (within_is HW.out _))))
      refine wpQuiet_nil ?_
      intro _ hw'
      obtain ⟨⟨dq, osq⟩, hw''⟩ := hw'
      subst hw''
      replace HB := hid (below_on HB.out (below_regrown W2 dq osq))
      generalize grow (redrawn W2 _) _ = W3 at *
      clear q2 hsl
      go_wp2
      go_roundw
      case rel => exact ⟨k + 1, HK.out, by go_num, HB.out⟩
      case measure => simp [intOf]; have := HK.out; omega
    · rcases (show ¬ k + 3 ≤ s.size ∨ (k + 3 ≤ s.size ∧ k = 100) by omega) with h1 | ⟨h1, rfl⟩
      · have h1I : ¬ (k : Int) + 3 ≤ (s.size : Int) := by omega
        have hd : decide ((k : Int) + 3 ≤ (s.size : Int)) = false := decide_eq_false h1I
        by_cases h3 : 3 ≤ s.size
        · have h3I : (3 : Int) ≤ (s.size : Int) := by omega
          clear hlt h1 h3
          go_wp2
          go_ret
          exact ⟨rfl, HB.out⟩
        · have h3I : ¬ (3 : Int) ≤ (s.size : Int) := by omega
          have HF := hid (ofS_short (xs := xsOf s) (by rw [xsOf_len]; omega))
          clear hlt h1 h3
          go_wp2_with (first
            | (go_at_call 9; refine (of_is HSx.out HF.out _).mono ?_; rintro e w2 ⟨rfl, hb⟩; replace HB := hid (below_on HB.out hb); clear hb)
            | (go_at_call 17; refine (count_is cnt_zero _).mono ?_; rintro e w2 ⟨rfl, hb⟩; replace HB := hid (below_on HB.out hb); clear hb))
          go_ret
          exact ⟨rfl, HB.out⟩
      · have h3I : (3 : Int) ≤ (s.size : Int) := by omega
        have h4I : ((100 : Nat) : Int) + 3 ≤ (s.size : Int) := by omega
        have h5I : (103 : Int) ≤ (s.size : Int) := by omega
        clear hlt h1
        go_wp2
        go_ret
        exact ⟨rfl, HB.out⟩
end Go.Proofs.Ytbnfgamgpliphaa
