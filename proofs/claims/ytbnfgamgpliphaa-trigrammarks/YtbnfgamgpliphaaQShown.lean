/-
  What Whole, the reference's, and the statements' own shown return.
-/
import Derived.Test.YtbnfgamgpliphaaQOf
namespace Go.Proofs.Ytbnfgamgpliphaa
open Go.RowKit

def wholeL (xs : List UInt8) : List UInt8 := [1] ++ (xs ++ [2])
theorem xsOf_app (s t : ByteArray) : xsOf (s ++ t) = xsOf s ++ xsOf t := by
  unfold xsOf; rw [ByteArray.data_append]; exact Array.toList_append
theorem xsOf_whole (s : ByteArray) : xsOf (⟨#[1]⟩ ++ s ++ ⟨#[2]⟩) = wholeL (xsOf s) := by
  rw [xsOf_app, xsOf_app, List.append_assoc]; rfl
theorem size_whole (s : ByteArray) : ((⟨#[1]⟩ : ByteArray) ++ s ++ ⟨#[2]⟩).size = s.size + 2 := by
  rw [ByteArray.size_append, ByteArray.size_append]
  show 1 + s.size + 1 = _; omega
theorem of_is {s : ByteArray} {F : F256} (hs : s.size ≤ 1125899906842624) (hF : ofS (xsOf s) = F) (w : World) : Calls Try.prog 9 #[.string s] w fun e w' => e = .returned (B4 F) ∧ Below w.heap.size w w' := by
  rw [← hF]; exact of_any s hs w
theorem rof_is {s : ByteArray} {F : F256} (hs : s.size ≤ 1125899906842624) (hF : ofS (xsOf s) = F) (w : World) : Calls Try.prog 10 #[.string s] w fun e w' => e = .returned (B4 F) ∧ Below w.heap.size w w' := by
  rw [← hF]; exact rof_any s hs w
set_option maxRecDepth 100000 in
theorem whole_any (s : ByteArray) (hs : s.size ≤ 562949953421312) (w : World) : Calls Try.prog 11 #[.string s] w fun e w' => e = .returned (B4 (ofS (wholeL (xsOf s)))) ∧ Below w.heap.size w w' := by
  have HS := hid hs
  have hsI : (s.size : Int) ≤ 562949953421312 := by omega
  clear hs
  generalize hF : ofS (wholeL (xsOf s)) = F
  have HF := hid hF
  clear hF
  have HZ := hid (size_whole s)
  have HX := hid (xsOf_whole s)
  have KZ : Hid (Fb (w.alloc (.cells zs 25 (0, 0))) w.heap.size 0) := Fb.zero w
  have HB : Hid (Below w.heap.size w (w.alloc (.cells zs 25 (0, 0)))) := (Below.refl _ _).alloc (Nat.le_refl _) _
  go_enter Try.func11, Try.ntmps11
  go_wp2_with (go_at_call 9; refine (of_is (F := F) (by have := HS.out; have := HZ.out; omega) (by rw [HX.out]; exact HF.out) _).mono ?_; rintro e w' ⟨rfl, hb⟩; replace KZ := hid (KZ.out.on hb); replace HB := hid (below_on HB.out hb); clear hb; have c0 := KZ.out.cells; have f0 := KZ.out.frozen; have l0 := KZ.out.lt)
  refine bodyPost_ret (v := B4 F) (by simp [results, Try.results11, go_sem, c0]) rfl ⟨rfl, ?_⟩
  have hbw := HB.out
  clear c0 f0
  go_grown
set_option maxRecDepth 100000 in
theorem rwhole_any (s : ByteArray) (hs : s.size ≤ 562949953421312) (w : World) : Calls Try.prog 12 #[.string s] w fun e w' => e = .returned (B4 (ofS (wholeL (xsOf s)))) ∧ Below w.heap.size w w' := by
  have HS := hid hs
  have hsI : (s.size : Int) ≤ 562949953421312 := by omega
  clear hs
  generalize hF : ofS (wholeL (xsOf s)) = F
  have HF := hid hF
  clear hF
  have HZ := hid (size_whole s)
  have HX := hid (xsOf_whole s)
  have KZ : Hid (Fb (w.alloc (.cells zs 25 (0, 0))) w.heap.size 0) := Fb.zero w
  have HB : Hid (Below w.heap.size w (w.alloc (.cells zs 25 (0, 0)))) := (Below.refl _ _).alloc (Nat.le_refl _) _
  go_enter Try.func12, Try.ntmps12
  go_wp2_with (go_at_call 10; refine (rof_is (F := F) (by have := HS.out; have := HZ.out; omega) (by rw [HX.out]; exact HF.out) _).mono ?_; rintro e w' ⟨rfl, hb⟩; replace KZ := hid (KZ.out.on hb); replace HB := hid (below_on HB.out hb); clear hb; have c0 := KZ.out.cells; have f0 := KZ.out.frozen; have l0 := KZ.out.lt)
  refine bodyPost_ret (v := B4 F) (by simp [results, Try.results12, go_sem, c0]) rfl ⟨rfl, ?_⟩
  have hbw := HB.out
  clear c0 f0
  go_grown
/- The document's examples. -/
theorem ex1 : ofS (xsOf ⟨#[97, 98]⟩) = 0 := by decide +kernel
theorem ex2 : cnt (ofS (xsOf ⟨#[97, 98, 99]⟩)) = 1 := by decide +kernel
theorem ex3 : (ofS (xsOf ⟨#[97, 98, 99]⟩)).getLsbD 98 = true := by decide +kernel
theorem ex4 : wit (ofS (xsOf ⟨#[101, 98, 32, 115]⟩)) (ofS (xsOf ⟨#[119, 101, 98, 32, 115, 101, 114, 118, 101, 114]⟩)) = true := by decide +kernel
theorem ex5 : wit (ofS (xsOf ⟨#[100, 98, 120]⟩)) (ofS (xsOf ⟨#[119, 101, 98]⟩)) = false := by decide +kernel
theorem count_is {F : F256} {n : Nat} (h : cnt F = n) (w : World) : Calls Try.prog 17 #[B4 F] w fun e w' => e = .returned (.int .i64 (n : Int)) ∧ Below w.heap.size w w' := by rw [← h]; exact count_any F w
theorem within_is {F G : F256} {b : Bool} (h : wit F G = b) (w : World) : Calls Try.prog 15 #[B4 F, B4 G] w fun e w' => e = .returned (.bool b) ∧ Below w.heap.size w w' := by rw [← h]; exact within_any F G w
theorem eqF_self (F : F256) : eqF F F = true := by simp [eqF]
set_option maxRecDepth 100000 in
set_option maxHeartbeats 1000000 in
theorem shown_any (w : World) : Calls Try.prog 8 #[] w fun e w' => e = .returned (.bool true) ∧ Below w.heap.size w w' := by
  obtain ⟨Z, hZ, hez⟩ : ∃ Z, ofS (xsOf ⟨#[97, 98]⟩) = Z ∧ ∀ w, (Op.equalIn 10000 25 (B4 Z) (.agg #[.int .u64 0, .int .u64 0, .int .u64 0, .int .u64 0])).run Try.prog w = .ok true w := ⟨0, ex1, fun w => (eql25 0 0 w).trans (by rw [eqF_self])⟩
  have HZ := hid hZ
  clear hZ
  have E2 := hid ex2
  have E3 := hid ex3
  have E4 := hid ex4
  have E5 := hid ex5
  obtain ⟨A, hA⟩ : ∃ A, ofS (xsOf ⟨#[97, 98, 99]⟩) = A := ⟨_, rfl⟩
  obtain ⟨B, hB⟩ : ∃ B, ofS (xsOf ⟨#[101, 98, 32, 115]⟩) = B := ⟨_, rfl⟩
  obtain ⟨C, hC⟩ : ∃ C, ofS (xsOf ⟨#[119, 101, 98, 32, 115, 101, 114, 118, 101, 114]⟩) = C := ⟨_, rfl⟩
  obtain ⟨D, hD⟩ : ∃ D, ofS (xsOf ⟨#[100, 98, 120]⟩) = D := ⟨_, rfl⟩
  obtain ⟨E, hE⟩ : ∃ E, ofS (xsOf ⟨#[119, 101, 98]⟩) = E := ⟨_, rfl⟩
  rw [hA] at E2 E3
  rw [hB, hC] at E4
  rw [hD, hE] at E5
  have HA := hid hA
  have HB := hid hB
  have HC := hid hC
  have HD := hid hD
  have HE := hid hE
  clear hA hB hC hD hE
  have M1 : Hid True := trivial
  have M2 : Hid True := trivial
  have M3 : Hid True := trivial
  have M4 : Hid True := trivial
  have M5 : Hid True := trivial
  have M6 : Hid True := trivial
  go_enter Try.func8, Try.ntmps8
  go_wp2_with (go_at_call 9; clear M1; refine (of_is (by decide) HA.out _).mono ?_; rintro e w1 ⟨rfl, hb1⟩; have K1 := hid (Fb.made w1 A); have H1 := hid (below_on hb1 ((Below.refl _ w1).alloc (Nat.le_refl _) (.cells (c4 A) 25 (0, 0)))); clear hb1 HA)
  generalize w1.alloc _ = W at *
  generalize w1.heap.size = n1 at *
  refine (of_is (by decide) HZ.out _).mono ?_
  rintro e w2 ⟨rfl, hb⟩
  replace K1 := hid (K1.out.on hb)
  replace H1 := hid (below_on H1.out hb)
  clear hb HZ
  have c1 := K1.out.cells
  have l1 := K1.out.lt
  go_wp2_with (first
    | (go_at_call 17; clear M2; refine (count_is E2.out _).mono ?_; rintro e w3 ⟨rfl, hb⟩; replace K1 := hid (K1.out.on hb); replace H1 := hid (below_on H1.out hb); clear hb c1 l1 hez; have c1 := K1.out.cells; have l1 := K1.out.lt)
    | (go_at_call 19; clear M3; refine (has_is (by decide) E3.out _).mono ?_; rintro e w4 ⟨rfl, hb⟩; replace H1 := hid (below_on H1.out hb); clear hb c1 l1 K1)
    | (go_at_call 9; clear M4; refine (of_is (by decide) HB.out _).mono ?_; rintro e w5 ⟨rfl, hb⟩; replace H1 := hid (below_on H1.out hb); clear hb HB)
    | (go_at_call 9; clear M5; refine (of_is (by decide) HC.out _).mono ?_; rintro e w5 ⟨rfl, hb⟩; replace H1 := hid (below_on H1.out hb); clear hb HC)
    | (go_at_call 15; clear M6; refine (within_is E4.out _).mono ?_; rintro e w5 ⟨rfl, hb⟩; replace H1 := hid (below_on H1.out hb); clear hb)
    | (go_at_call 9; refine (of_is (by decide) HD.out _).mono ?_; rintro e w5 ⟨rfl, hb⟩; replace H1 := hid (below_on H1.out hb); clear hb HD)
    | (go_at_call 9; refine (of_is (by decide) HE.out _).mono ?_; rintro e w5 ⟨rfl, hb⟩; replace H1 := hid (below_on H1.out hb); clear hb HE)
    | (go_at_call 15; refine (within_is E5.out _).mono ?_; rintro e w5 ⟨rfl, hb⟩; replace H1 := hid (below_on H1.out hb); clear hb))
  go_ret
  exact ⟨rfl, H1.out⟩
end Go.Proofs.Ytbnfgamgpliphaa
