/-
  catchmentlaw01.ValueChain returns true for every three values, and turns nothing older in memory. Condition: the table of the powers of ten of Go's strconv is as it is laid.
-/
import Derived.Test.YtjplnelffiegmaaDoorShown
import Derived.Test.YtjplnelffiegmaaDoorOrder
namespace Go.Proofs.YtjplnelffiegmaaDoor
open Go.RowKit Go.Joins Go.Sort

set_option maxHeartbeats 1000000 in
set_option maxRecDepth 100000 in
theorem valueChain_any {k n : Int} {s : ByteArray} {a0 a1 a2 a3 a4 a5 a6 a7 : Int} {k' n' : Int} {s' : ByteArray} {b0 b1 b2 b3 b4 b5 b6 b7 : Int} {k'' n'' : Int} {s'' : ByteArray} {c0 c1 c2 c3 c4 c5 c6 c7 : Int} {w : World} (ht : Tab w) :
    Calls Tryd.prog 5 #[V k n s a0 a1 a2 a3 a4 a5 a6 a7, V k' n' s' b0 b1 b2 b3 b4 b5 b6 b7, V k'' n'' s'' c0 c1 c2 c3 c4 c5 c6 c7] w fun e w' => e = .returned (.bool true) ∧ Below w.heap.size w w' := by
  have HT := hid ht
  clear ht
  obtain ⟨X, hX⟩ : ∃ X, cmpV k n s a0 a1 a2 a3 a4 a5 a6 a7 k' n' s' b0 b1 b2 b3 b4 b5 b6 b7 = X := ⟨_, rfl⟩
  obtain ⟨Y, hY⟩ : ∃ Y, cmpV k' n' s' b0 b1 b2 b3 b4 b5 b6 b7 k'' n'' s'' c0 c1 c2 c3 c4 c5 c6 c7 = Y := ⟨_, rfl⟩
  obtain ⟨Z, hZ⟩ : ∃ Z, cmpV k n s a0 a1 a2 a3 a4 a5 a6 a7 k'' n'' s'' c0 c1 c2 c3 c4 c5 c6 c7 = Z := ⟨_, rfl⟩
  have h3 := tri_cmpV k n s a0 a1 a2 a3 a4 a5 a6 a7 k' n' s' b0 b1 b2 b3 b4 b5 b6 b7 k'' n'' s'' c0 c1 c2 c3 c4 c5 c6 c7
  have e1 := eqV_cmpV k n s a0 a1 a2 a3 a4 a5 a6 a7 k' n' s' b0 b1 b2 b3 b4 b5 b6 b7
  have e2 := eqV_cmpV k' n' s' b0 b1 b2 b3 b4 b5 b6 b7 k'' n'' s'' c0 c1 c2 c3 c4 c5 c6 c7
  rw [hX, hY, hZ] at h3
  rw [hX] at e1
  rw [hY] at e2
  unfold tri at h3
  have hXYZ : ¬ (X ≤ 0 ∧ Y ≤ 0 ∧ 0 < Z) := by omega
  have hXYZ' : ¬ (0 ≤ X ∧ 0 ≤ Y ∧ Z < 0) := by omega
  clear h3
  have he := @eql24
  go_enter Tryd.func5, Tryd.ntmps5
  go_wp2_with fail
  refine (shown_any (HT.out.on ((((Below.refl _ _).alloc (Nat.le_refl _) _).alloc (by go_size) _).alloc (by go_size) _))).mono ?_
  rintro e w1 ⟨rfl, hb⟩
  obtain ⟨hc, hf⟩ := bcell hb
  go_wp2_with fail
  refine (compare_is X hX).mono ?_
  rintro e w2 ⟨rfl, hb2⟩
  replace hb := below_on hb hb2
  clear hb2 hc hf
  obtain ⟨hc, hf⟩ := bcell hb
  go_wp2_with fail
  refine (compare_is Y hY).mono ?_
  rintro e w3 ⟨rfl, hb2⟩
  replace hb := below_on hb hb2
  clear hb2 hc hf
  obtain ⟨hc, hf⟩ := bcell hb
  go_wp2_with fail
  refine (compare_is Z hZ).mono ?_
  rintro e w4 ⟨rfl, hb2⟩
  replace hb := below_on hb hb2
  clear hb2 hc hf
  obtain ⟨hc, hf⟩ := bcell hb
  go_wp2_with fail
  all_goals
    go_ret
    refine ⟨?_, ((((Below.refl _ _).alloc (Nat.le_refl _) _).alloc (by go_size) _).alloc (by go_size) _).trans (hb.mono (by go_size))⟩
    first | rfl | exact ret_bool (by simp)
end Go.Proofs.YtjplnelffiegmaaDoor
