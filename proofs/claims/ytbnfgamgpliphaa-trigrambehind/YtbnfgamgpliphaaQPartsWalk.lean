/-
  The walk of catchmentlaw09.TrigramParts.
-/
import Derived.Test.YtbnfgamgpliphaaQMarksWalk
import Derived.Deep.Cut
namespace Go.Proofs.Ytbnfgamgpliphaa
open Go.RowKit Go.Sort

theorem slice_str {s p : ByteArray} {A B : Int} {a b : Nat} (hA : A = (a : Int)) (hB : B = (b : Int)) (hab : a ≤ b) (hb : b ≤ s.size) (hp : s.extract a b = p) (w : World) : (Instr.slice 9 (.string s) (some (.int .i64 A)) (some (.int .i64 B)) none).run Try.prog w = .ok (.string p) w := by
  subst hA hB
  rw [run_slice_string w 9 s .i64 .i64 _ _ Try.underlying9 (by omega) (by omega) (by omega), ← hp]
  simp
theorem xsOf_extract (s : ByteArray) {a b : Nat} (hab : a ≤ b) : ∃ x y, xsOf s = x ++ (xsOf (s.extract a b) ++ y) := by
  refine ⟨(xsOf s).take a, (xsOf s).drop b, ?_⟩
  have h : xsOf (s.extract a b) = ((xsOf s).take b).drop a := by
    unfold xsOf; rw [ByteArray.data_extract, Array.toList_extract]; simp [List.extract, List.take_drop, show a + (b - a) = b by omega]
  rw [h]
  have h1 : (xsOf s).take a = ((xsOf s).take b).take a := by rw [List.take_take, Nat.min_eq_left hab]
  rw [h1, ← List.append_assoc, List.take_append_drop, List.take_append_drop]
theorem part_is (s : ByteArray) {a b : Nat} (hab : a ≤ b) : wit (ofS (xsOf (s.extract a b))) (ofS (xsOf s)) = true := by
  obtain ⟨x, y, h⟩ := xsOf_extract s hab
  have := part_wit x (xsOf (s.extract a b)) y
  rwa [← h] at this
theorem whole_wit (s : ByteArray) : wit (ofS (xsOf s)) (ofS (wholeL (xsOf s))) = true := part_wit [1] (xsOf s) [2]
set_option maxRecDepth 100000 in
set_option maxHeartbeats 1000000 in
theorem parts_any (s : ByteArray) (f t : Int) (hs : s.size ≤ 281474976710656) (hf0 : -9223372036854775808 ≤ f) (hf1 : f ≤ 9223372036854775807) (ht0 : -9223372036854775808 ≤ t) (ht1 : t ≤ 9223372036854775807) (w : World) : Calls Try.prog 5 #[.string s, .int .i64 f, .int .i64 t] w fun e w' => e = .returned (.bool true) ∧ Below w.heap.size w w' := by
  have hsI : (s.size : Int) ≤ 281474976710656 := by omega
  clear hs
  go_enter Try.func5, Try.ntmps5
  go_upto_if 11 with (go_at_call 8; refine (shown_any _).mono ?_; rintro e w1 ⟨rfl, hb⟩; have HB := hid hb; clear hb)
  go_cut [1] from 12 (fun av wx => ∃ A : Nat, av = .int .i64 A ∧ A ≤ 9223372036854775807 ∧ wx = w1)
  case first =>
    by_cases hneg : f < 0
    · go_wp2
      go_meet
      exact ⟨(-(f + 1)).toNat, by congr 1; omega, by omega, rfl⟩
    · go_wp2
      go_meet
      exact ⟨f.toNat, by congr 1; omega, by omega, rfl⟩
  case rest =>
    obtain ⟨A, hu1, hA, hwc⟩ := hcut
    subst hu1
    replace hwc := hwc.symm
    subst hwc
    go_upto_if 16 with fail
    go_cut [2] from 17 (fun av wx => ∃ C : Nat, av = .int .i64 C ∧ C ≤ 9223372036854775807 ∧ wx = w1)
    case first =>
      by_cases hneg : t < 0
      · go_wp2
        go_meet
        exact ⟨(-(t + 1)).toNat, by congr 1; omega, by omega, rfl⟩
      · go_wp2
        go_meet
        exact ⟨t.toNat, by congr 1; omega, by omega, rfl⟩
    case rest =>
      obtain ⟨C, hu2, hC, hwc⟩ := hcut
      subst hu2
      replace hwc := hwc.symm
      subst hwc
      clear hf0 hf1 ht0 ht1
      obtain ⟨a, ha⟩ : ∃ a, A % (s.size + 1) = a := ⟨_, rfl⟩
      have ham : a ≤ s.size := by rw [← ha]; have := Nat.mod_lt A (show 0 < s.size + 1 by omega); omega
      obtain ⟨c, hc⟩ : ∃ c, C % (s.size - a + 1) = c := ⟨_, rfl⟩
      have hcm : a + c ≤ s.size := by rw [← hc]; have := Nat.mod_lt C (show 0 < s.size - a + 1 by omega); omega
      have t1 : ((A : Nat) : Int).tmod ((s.size : Int) + 1) = (a : Int) := by rw [← ha, Int.tmod_eq_emod_of_nonneg (by omega)]; exact (Int.natCast_emod A (s.size + 1)).symm
      have t2 : ((C : Nat) : Int).tmod ((s.size : Int) - (a : Int) + 1) = (c : Int) := by rw [← hc, Int.tmod_eq_emod_of_nonneg (by omega)]; rw [show (s.size : Int) - (a : Int) + 1 = ((s.size - a + 1 : Nat) : Int) by omega]; exact (Int.natCast_emod C (s.size - a + 1)).symm
      clear ha hc
      have HP := hid (part_is s (a := a) (b := a + c) (by omega))
      have HW := hid (whole_wit s)
      have HX : Hid ((s.extract a (a + c)).size ≤ 1125899906842624) := by show _ ≤ _; rw [ByteArray.size_extract]; omega
      have HS : Hid (s.size ≤ 562949953421312) := by show _ ≤ _; omega
      obtain ⟨D, hD⟩ : ∃ D, ofS (xsOf (s.extract a (a + c))) = D := ⟨_, rfl⟩
      obtain ⟨F, hF⟩ : ∃ F, ofS (xsOf s) = F := ⟨_, rfl⟩
      obtain ⟨G, hG⟩ : ∃ G, ofS (wholeL (xsOf s)) = G := ⟨_, rfl⟩
      rw [hD, hF] at HP
      rw [hF, hG] at HW
      have HD := hid hD
      have HF := hid hF
      have HG := hid hG
      clear hD hF hG
      go_wp2_with (go_at_call 9; refine (of_is HX.out HD.out _).mono ?_; rintro e w2 ⟨rfl, hb⟩; replace HB := hid (below_on (below_on HB.out hb) ((Below.refl _ w2).alloc (Nat.le_refl _) (.cells (c4 D) 25 (0, 0)))); have K2 := hid (Fb.made w2 D); clear hb)
      generalize w2.alloc _ = W2 at *
      generalize w2.heap.size = n2 at *
      have q2 := quiet_cells K2.out
      clear t1 t2
      refine wp_region_quiet_below (by kernel_rfl) (by kernel_rfl) ?_
      iterate 8 (go_big_quiet_step (first
        | (go_at_call 9; exact Calls.regrown_of (of_is (Nat.le_trans HS.out (by omega)) HF.out _))
        | (go_at_call 15; exact Calls.regrown_of (within_is HP.out _))))
      repeat (go_big_quiet_step (first
        | (go_at_call 9; exact Calls.regrown_of (of_is (Nat.le_trans HS.out (by omega)) HF.out _))
        | (go_at_call 11; exact Calls.regrown_of (whole_is HS.out HG.out _))
        | (go_at_call 15; exact Calls.regrown_of (within_is HW.out _))))
      refine wpQuiet_nil ?_
      intro _ hw'
      obtain ⟨⟨dq, osq⟩, hw''⟩ := hw'
      subst hw''
      go_wp2
      go_ret
      exact ⟨rfl, below_on HB.out (below_regrown W2 dq osq)⟩
end Go.Proofs.Ytbnfgamgpliphaa
