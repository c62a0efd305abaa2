/-
  The walk of catchmentlaw09.TrigramBehind.
-/
import Derived.Test.YtbnfgamgpliphaaQPartsWalk
namespace Go.Proofs.Ytbnfgamgpliphaa
open Go.RowKit Go.Sort

set_option maxRecDepth 100000 in
set_option maxHeartbeats 1000000 in
theorem behind_any (s t : ByteArray) (hs : s.size ≤ 281474976710656) (ht : t.size ≤ 281474976710656) (w : World) : Calls Try.prog 6 #[.string s, .string t] w fun e w' => e = .returned (.bool true) ∧ Below w.heap.size w w' := by
  have HX : Hid ((s ++ t).size ≤ 1125899906842624) := by show _ ≤ _; rw [ByteArray.size_append]; omega
  have HS : Hid (s.size ≤ 1125899906842624) := by show _ ≤ _; omega
  have HT : Hid (t.size ≤ 1125899906842624) := by show _ ≤ _; omega
  have hsI : (s.size : Int) ≤ 281474976710656 := by omega
  have htI : (t.size : Int) ≤ 281474976710656 := by omega
  have HW := hid (behind_wit (xsOf s) (xsOf t))
  have HC := hid (behind_cnt (xsOf s) (xsOf t))
  rw [← xsOf_app] at HW HC
  clear hs ht
  obtain ⟨F, hF⟩ : ∃ F, ofS (xsOf s) = F := ⟨_, rfl⟩
  obtain ⟨G, hG⟩ : ∃ G, ofS (xsOf t) = G := ⟨_, rfl⟩
  obtain ⟨A, hA⟩ : ∃ A, ofS (xsOf (s ++ t)) = A := ⟨_, rfl⟩
  obtain ⟨J, hJ⟩ : ∃ J, F ||| G = J := ⟨_, rfl⟩
  rw [hF, hG, hA, hJ] at HW HC
  obtain ⟨n, hn⟩ : ∃ n, cnt A = n := ⟨_, rfl⟩
  obtain ⟨m, hm⟩ : ∃ m, cnt J = m := ⟨_, rfl⟩
  have hm256 : (m : Int) ≤ 256 := by have := cntTo_le J 256; have h : cnt J = cntTo J 256 := rfl; omega
  have hnm : (n : Int) ≤ (m : Int) + 2 := by have := HC.out; omega
  clear HC
  have HF := hid hF
  have HG := hid hG
  have HA := hid hA
  have HJ := hid hJ
  have Hn := hid hn
  have Hm := hid hm
  clear hF hG hA hJ hn hm
  have M1 : Hid True := trivial
  have M2 : Hid True := trivial
  go_enter Try.func6, Try.ntmps6
  go_wp2_with (first
    | (go_at_call 8; refine (shown_any _).mono ?_; rintro e w1 ⟨rfl, hb⟩; have HB := hid hb; clear hb)
    | (go_at_call 9; clear M1; refine (of_is HS.out HF.out _).mono ?_; rintro e w2 ⟨rfl, hb⟩; replace HB := hid (below_on HB.out hb); clear hb)
    | (go_at_call 9; clear M2; refine (of_is HT.out HG.out _).mono ?_; rintro e w3 ⟨rfl, hb⟩; replace HB := hid (below_on HB.out hb); clear hb)
    | (go_at_call 13; refine (join_is HJ.out _).mono ?_; rintro e w4 ⟨rfl, hb⟩; replace HB := hid (below_on (below_on HB.out hb) ((Below.refl _ w4).alloc (Nat.le_refl _) (.cells (c4 J) 25 (0, 0)))); have K2 := hid (Fb.made w4 J); clear hb))
  generalize w4.alloc _ = W2 at *
  generalize w4.heap.size = n2 at *
  refine (of_is HX.out HA.out _).mono ?_
  rintro e w5 ⟨rfl, hb⟩
  replace HB := hid (below_on (below_on HB.out hb) ((Below.refl _ w5).alloc (Nat.le_refl _) (.cells (c4 A) 25 (0, 0))))
  replace K2 := hid ((K2.out.on hb).alloc (.cells (c4 A) 25 (0, 0)))
  have K3 := hid (Fb.made w5 A)
  clear hb
  go_wp2_with fail
  generalize w5.alloc _ = W3 at *
  generalize w5.heap.size = n3 at *
  have q2 := quiet_cells K2.out
  have q3 := quiet_cells K3.out
  refine wp_region_quiet_below (by kernel_rfl) (by kernel_rfl) ?_
  iterate 9 (go_big_quiet_step (first
    | (go_at_call 15; exact Calls.regrown_of (within_is HW.out _))
    | (go_at_call 17; exact Calls.regrown_of (count_is Hn.out _))))
  repeat (go_big_quiet_step (first
    | (go_at_call 17; exact Calls.regrown_of (count_is Hm.out _))))
  refine wpQuiet_nil ?_
  intro _ hw'
  obtain ⟨⟨dq, osq⟩, hw''⟩ := hw'
  subst hw''
  go_wp2
  go_ret
  exact ⟨ret_bool (by simp), below_on HB.out (below_regrown W3 dq osq)⟩
end Go.Proofs.Ytbnfgamgpliphaa
