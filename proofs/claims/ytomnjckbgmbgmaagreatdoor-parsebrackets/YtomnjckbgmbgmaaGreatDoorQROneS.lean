/-
  What the reference's one returns: a sign, or nothing.
-/
import Derived.Test.YtomnjckbgmbgmaaGreatDoorQROne
namespace Go.Proofs.YtomnjckbgmbgmaaGreatDoor
open Go.RowKit Go.Joins
theorem rLe_45 (w : World) : Calls Tryz.prog 66 #[.int .u8 45] w fun e w' => e = .returned (.bool false) ∧ w' = w := rLe_any 45 w
theorem rDg_45 (w : World) : Calls Tryz.prog 69 #[.int .u8 45] w fun e w' => e = .returned (.bool false) ∧ w' = w := rDg_any 45 w
theorem sgn_forms (l : List UInt8) : (signS l = none ∧ sgnOf l = []) ∨ signS l = some (⟨4, sgnOf l, 0, 0⟩, (sgnOf l).length) := by
  cases h : signS l with
  | none => exact .inl ⟨rfl, sgnOf_no h⟩
  | some x =>
    right
    have h0 := h
    unfold signS at h
    split at h
    · cases h; rw [sgnOf_yes h0]
    · cases h
set_option maxRecDepth 100000 in
set_option maxHeartbeats 1000000 in
theorem rone_s (l : List UInt8) (hl : (l.length : Int) ≤ 2048) (h1 : 0 < l.length) (hO : Other l) (w : World) : Calls Tryz.prog 37 #[.string (St l)] w (OneP (signS l) w) := by
  have hsz := St_size l
  have h1I : 0 < (l.length : Int) := by omega
  have hi0 := idx l 0 h1
  simp only [Int.natCast_zero] at hi0
  obtain ⟨a1, a2, a3, a4⟩ := hO h1
  have HRS := hid (fun w => rsign_any l (by omega) h1 w)
  have HF := hid (sgn_forms l)
  generalize sgnOf l = x at *
  have hsx := St_size x
  by_cases h45 : l[0].toNat = 45
  · have A4 := hid (a4 h45)
    rw [h45] at hi0
    simp only [show ((45 : Nat) : Int) = 45 from rfl] at hi0
    clear a1 a2 a3 a4 h45
    by_cases hlt : 1 < l.length
    · have hltI : 1 < (l.length : Int) := by omega
      have hi1 := idx l 1 hlt
      simp only [show ((1 : Nat) : Int) = 1 from rfl] at hi1
      have HD := hid (A4.out hlt)
      clear A4
      generalize l[1] = d at *
      have M1 : Hid True := hid trivial
      go_enter Tryz.func37, Tryz.ntmps37
      go_wp2_with (first
        | (go_at_call 66; refine (rLe_45 _).mono ?_; rintro e w2 ⟨rfl, hw2⟩; replace hw2 := hw2.symm; subst hw2)
        | (go_at_call 69; clear M1; refine (rDg_45 _).mono ?_; rintro e w2 ⟨rfl, hw2⟩; replace hw2 := hw2.symm; subst hw2)
        | (go_at_call 69; refine (rDg_any _ _).mono ?_; rintro e w2 ⟨rfl, hw2⟩; replace hw2 := hw2.symm; subst hw2; rw [HD.out])
        | (go_at_call 71; refine (HRS.out _).mono ?_; rintro e w3 ⟨rfl, hb⟩; have HKB := hid (box_keep hb); have hfz := HKB.out.1.frozen; have hcs := HKB.out.1.cells; obtain ⟨hc0, hc1, hc2, hc3⟩ := hcs; clear hb))
      have hE := HKB.out.1.set4 (.int .i64 4) (.string (St x)) (.int .i64 0) (.int .i64 0)
      obtain ⟨d0, d1, d2, d3⟩ := hE.cells
      have HBB := hid (below_set4 HKB.out.2 (Nat.le_refl _) (.int .i64 4) (.string (St x)) (.int .i64 0) (.int .i64 0))
      refine bodyPost_ret (v := .tuple #[TV 4 x 0 0, .int .i64 (x.length : Int)]) ?_ rfl ⟨⟨4, x, 0, 0, (x.length : Int), rfl, ?_, ?_⟩, HBB.out⟩
      · clear hc0 hc1 hc2 hc3
        simp [results, Tryz.results37, go_sem, d0, d1, d2, d3]
      · intro h
        rcases HF.out with ⟨-, h2⟩ | h2
        · rw [h2]; rfl
        · rw [h2] at h; cases h
      · intro t q h
        rcases HF.out with ⟨h2, -⟩ | h2
        · rw [h2] at h; cases h
        · rw [h2] at h; cases h; exact ⟨rfl, rfl, rfl, rfl, rfl⟩
    · have hltI : ¬ 1 < (l.length : Int) := by omega
      clear A4
      go_enter Tryz.func37, Tryz.ntmps37
      go_wp2_with (first
        | (go_at_call 66; refine (rLe_45 _).mono ?_; rintro e w2 ⟨rfl, hw2⟩; replace hw2 := hw2.symm; subst hw2)
        | (go_at_call 69; refine (rDg_45 _).mono ?_; rintro e w2 ⟨rfl, hw2⟩; replace hw2 := hw2.symm; subst hw2)
        | (go_at_call 71; refine (HRS.out _).mono ?_; rintro e w3 ⟨rfl, hb⟩; have HKB := hid (box_keep hb); have hfz := HKB.out.1.frozen; have hcs := HKB.out.1.cells; obtain ⟨hc0, hc1, hc2, hc3⟩ := hcs; clear hb))
      have hE := HKB.out.1.set4 (.int .i64 4) (.string (St x)) (.int .i64 0) (.int .i64 0)
      obtain ⟨d0, d1, d2, d3⟩ := hE.cells
      have HBB := hid (below_set4 HKB.out.2 (Nat.le_refl _) (.int .i64 4) (.string (St x)) (.int .i64 0) (.int .i64 0))
      refine bodyPost_ret (v := .tuple #[TV 4 x 0 0, .int .i64 (x.length : Int)]) ?_ rfl ⟨⟨4, x, 0, 0, (x.length : Int), rfl, ?_, ?_⟩, HBB.out⟩
      · clear hc0 hc1 hc2 hc3
        simp [results, Tryz.results37, go_sem, d0, d1, d2, d3]
      · intro h
        rcases HF.out with ⟨-, h2⟩ | h2
        · rw [h2]; rfl
        · rw [h2] at h; cases h
      · intro t q h
        rcases HF.out with ⟨h2, -⟩ | h2
        · rw [h2] at h; cases h
        · rw [h2] at h; cases h; exact ⟨rfl, rfl, rfl, rfl, rfl⟩
  · have h45I : ¬ ((l[0].toNat : Nat) : Int) = 45 := by omega
    have h34I : ¬ ((l[0].toNat : Nat) : Int) = 34 := by omega
    have b45 : (((l[0].toNat : Nat) : Int) == 45) = false := beq_eq_false_iff_ne.2 h45I
    clear a2 a4 h45
    generalize l[0] = c at *
    go_enter Tryz.func37, Tryz.ntmps37
    go_wp2_with (first
      | (go_at_call 66; refine (rLe_any _ _).mono ?_; rintro e w2 ⟨rfl, hw2⟩; replace hw2 := hw2.symm; subst hw2; rw [a1])
      | (go_at_call 69; refine (rDg_any _ _).mono ?_; rintro e w2 ⟨rfl, hw2⟩; replace hw2 := hw2.symm; subst hw2; rw [a3])
      | (go_at_call 71; refine (HRS.out _).mono ?_; rintro e w3 ⟨rfl, hb⟩; have HKB := hid (box_keep hb); have hfz := HKB.out.1.frozen; have hcs := HKB.out.1.cells; obtain ⟨hc0, hc1, hc2, hc3⟩ := hcs; clear hb))
    have hE := HKB.out.1.set4 (.int .i64 4) (.string (St x)) (.int .i64 0) (.int .i64 0)
    obtain ⟨d0, d1, d2, d3⟩ := hE.cells
    have HBB := hid (below_set4 HKB.out.2 (Nat.le_refl _) (.int .i64 4) (.string (St x)) (.int .i64 0) (.int .i64 0))
    refine bodyPost_ret (v := .tuple #[TV 4 x 0 0, .int .i64 (x.length : Int)]) ?_ rfl ⟨⟨4, x, 0, 0, (x.length : Int), rfl, ?_, ?_⟩, HBB.out⟩
    · clear hc0 hc1 hc2 hc3
      simp [results, Tryz.results37, go_sem, d0, d1, d2, d3]
    · intro h
      rcases HF.out with ⟨-, h2⟩ | h2
      · rw [h2]; rfl
      · rw [h2] at h; cases h
    · intro t q h
      rcases HF.out with ⟨h2, -⟩ | h2
      · rw [h2] at h; cases h
      · rw [h2] at h; cases h; exact ⟨rfl, rfl, rfl, rfl, rfl⟩
end Go.Proofs.YtomnjckbgmbgmaaGreatDoor
