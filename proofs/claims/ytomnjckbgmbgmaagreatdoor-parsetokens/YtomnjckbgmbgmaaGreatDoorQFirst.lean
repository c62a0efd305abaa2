/-
  What first returns.
-/
import Derived.Test.YtomnjckbgmbgmaaGreatDoorQText
namespace Go.Proofs.YtomnjckbgmbgmaaGreatDoor
open Go.RowKit Go.Joins

theorem ansV_form (x : Option (Tk × Nat)) : ∃ (k : Int) (s : List UInt8) (n a m : Int), ansV x = .tuple #[TV k s n a, .int .i64 m] := by
  cases x with
  | none => exact ⟨_, _, _, _, _, rfl⟩
  | some y => obtain ⟨t, n⟩ := y; exact ⟨_, _, _, _, _, rfl⟩
theorem firstS_w {l : List UInt8} (h : 0 < l.length) (hc : isLe l[0] = true) : firstS l = wordS l := by
  cases l with
  | nil => simp at h
  | cons c r => have hc : isLe c = true := hc; simp [firstS, hc]
theorem firstS_n {l : List UInt8} (h : 0 < l.length) (hc : isLe l[0] = false) (h2 : l[0].toNat = 45 ∨ isDg l[0] = true) : firstS l = numS l := by
  cases l with
  | nil => simp at h
  | cons c r =>
    have hc : isLe c = false := hc
    have h2 : c.toNat = 45 ∨ isDg c = true := h2
    rcases h2 with h2 | h2
    · obtain rfl : c = 45 := UInt8.toNat_inj.1 h2
      simp [firstS, hc]
    · simp [firstS, hc, h2]
theorem firstS_t {l : List UInt8} (h : 0 < l.length) (hc : l[0].toNat = 34) : firstS l = textS l := by
  cases l with
  | nil => simp at h
  | cons c r =>
    obtain rfl : c = 34 := UInt8.toNat_inj.1 hc
    simp [firstS, isLe, isDg]
theorem firstS_s {l : List UInt8} (h : 0 < l.length) (hc : isLe l[0] = false) (h2 : ¬ l[0].toNat = 45) (h3 : isDg l[0] = false) (h4 : ¬ l[0].toNat = 34) : firstS l = signS l := by
  cases l with
  | nil => simp at h
  | cons c r =>
    have hc : isLe c = false := hc
    have h3 : isDg c = false := h3
    have h2 : ¬ c = 45 := fun e => h2 (by show c.toNat = 45; rw [e]; rfl)
    have h4 : ¬ c = 34 := fun e => h4 (by show c.toNat = 34; rw [e]; rfl)
    simp [firstS, hc, h3, h2, h4]
theorem isLe_45 (w : World) : Calls Tryz.prog 99 #[.int .u8 45] w fun e w' => e = .returned (.bool false) ∧ w' = w := isLe_any 45 w
theorem isLe_34 (w : World) : Calls Tryz.prog 99 #[.int .u8 34] w fun e w' => e = .returned (.bool false) ∧ w' = w := isLe_any 34 w
theorem isDg_34 (w : World) : Calls Tryz.prog 101 #[.int .u8 34] w fun e w' => e = .returned (.bool false) ∧ w' = w := isDg_any 34 w
set_option maxRecDepth 100000 in
set_option maxHeartbeats 1000000 in
theorem first_any (l : List UInt8) (hl : (l.length : Int) ≤ 140737488355328) (h1 : 0 < l.length) (w : World) (hG : Gd w) : Calls Tryz.prog 65 #[.string (St l)] w fun e w' => e = .returned (ansV (firstS l)) ∧ Below w.heap.size w w' := by
  have hsz := St_size l
  have hi := idx l 0 h1
  simp only [Int.natCast_zero] at hi
  have HW := hid (@firstS_w l h1)
  have HN := hid (@firstS_n l h1)
  have HTx := hid (@firstS_t l h1)
  have HSg := hid (@firstS_s l h1)
  have h1I : 0 < (l.length : Int) := by omega
  generalize l[0] = c at *
  cases hc : isLe c with
  | true =>
    have HZ := hid (HW.out hc)
    have hd : isDg c = isDg c := rfl
    obtain ⟨k, s, n, a, m, hf⟩ := ansV_form (wordS l)
    have HF := hid hf
    clear hf HW HN HTx HSg
    go_enter Tryz.func65, Tryz.ntmps65
    go_wp2_with (first
      | (go_at_call 99; refine (isLe_any _ _).mono ?_; rintro e w2 ⟨rfl, rfl⟩; rw [hc])
      | (go_at_call 101; refine (isDg_any _ _).mono ?_; rintro e w2 ⟨rfl, rfl⟩; rw [hd])
      | (go_at_call 100; refine (word_any _ (by omega) _).mono ?_; rintro e w3 ⟨rfl, hb⟩; rw [HF.out]; have HKB := hid (box_keep hb); have hfz := HKB.out.1.frozen; have hcs := HKB.out.1.cells; obtain ⟨hc0, hc1, hc2, hc3⟩ := hcs; clear hb))
    have hE := HKB.out.1.set4 (.int .i64 k) (.string (St s)) (.int .i64 n) (.int .i64 a)
    obtain ⟨d0, d1, d2, d3⟩ := hE.cells
    have HBB := hid (below_set4 HKB.out.2 (Nat.le_refl _) (.int .i64 k) (.string (St s)) (.int .i64 n) (.int .i64 a))
    refine bodyPost_ret (v := .tuple #[TV k s n a, .int .i64 m]) ?_ rfl ⟨?_, HBB.out⟩
    · clear hc0 hc1 hc2 hc3 hi
      simp [results, Tryz.results65, go_sem, d0, d1, d2, d3]
    · rw [HZ.out, HF.out]
  | false =>
    by_cases h45 : c.toNat = 45
    · have HZ := hid (HN.out hc (.inl h45))
      have hd : isDg c = isDg c := rfl
      have h45I : (c.toNat : Int) = 45 := by omega
      obtain ⟨k, s, n, a, m, hf⟩ := ansV_form (numS l)
      have HF := hid hf
      clear hf HW HN HTx HSg
      go_enter Tryz.func65, Tryz.ntmps65
      go_wp2_with (first
        | (go_at_call 99; refine (isLe_45 _).mono ?_; rintro e w2 ⟨rfl, rfl⟩)
        | (go_at_call 102; refine (num_any _ hl _ (Gd.alloc hG _)).mono ?_; rintro e w3 ⟨rfl, hb⟩; rw [HF.out]; have HKB := hid (box_keep hb); have hfz := HKB.out.1.frozen; have hcs := HKB.out.1.cells; obtain ⟨hc0, hc1, hc2, hc3⟩ := hcs; clear hb))
      have hE := HKB.out.1.set4 (.int .i64 k) (.string (St s)) (.int .i64 n) (.int .i64 a)
      obtain ⟨d0, d1, d2, d3⟩ := hE.cells
      have HBB := hid (below_set4 HKB.out.2 (Nat.le_refl _) (.int .i64 k) (.string (St s)) (.int .i64 n) (.int .i64 a))
      refine bodyPost_ret (v := .tuple #[TV k s n a, .int .i64 m]) ?_ rfl ⟨?_, HBB.out⟩
      · clear hc0 hc1 hc2 hc3 hi
        simp [results, Tryz.results65, go_sem, d0, d1, d2, d3]
      · rw [HZ.out, HF.out]
    · have h45I : ¬ (c.toNat : Int) = 45 := by omega
      cases hd : isDg c with
      | true =>
        have HZ := hid (HN.out hc (.inr hd))
        obtain ⟨k, s, n, a, m, hf⟩ := ansV_form (numS l)
        have HF := hid hf
        clear hf HW HN HTx HSg
        go_enter Tryz.func65, Tryz.ntmps65
        go_wp2_with (first
          | (go_at_call 99; refine (isLe_any _ _).mono ?_; rintro e w2 ⟨rfl, rfl⟩; rw [hc])
          | (go_at_call 101; refine (isDg_any _ _).mono ?_; rintro e w2 ⟨rfl, rfl⟩; rw [hd])
          | (go_at_call 102; refine (num_any _ hl _ (Gd.alloc hG _)).mono ?_; rintro e w3 ⟨rfl, hb⟩; rw [HF.out]; have HKB := hid (box_keep hb); have hfz := HKB.out.1.frozen; have hcs := HKB.out.1.cells; obtain ⟨hc0, hc1, hc2, hc3⟩ := hcs; clear hb))
        have hE := HKB.out.1.set4 (.int .i64 k) (.string (St s)) (.int .i64 n) (.int .i64 a)
        obtain ⟨d0, d1, d2, d3⟩ := hE.cells
        have HBB := hid (below_set4 HKB.out.2 (Nat.le_refl _) (.int .i64 k) (.string (St s)) (.int .i64 n) (.int .i64 a))
        refine bodyPost_ret (v := .tuple #[TV k s n a, .int .i64 m]) ?_ rfl ⟨?_, HBB.out⟩
        · clear hc0 hc1 hc2 hc3 hi
          simp [results, Tryz.results65, go_sem, d0, d1, d2, d3]
        · rw [HZ.out, HF.out]
      | false =>
        by_cases h34 : c.toNat = 34
        · have HZ := hid (HTx.out h34)
          have h34I : (c.toNat : Int) = 34 := by omega
          obtain ⟨k, s, n, a, m, hf⟩ := ansV_form (textS l)
          have HF := hid hf
          clear hf HW HN HTx HSg
          go_enter Tryz.func65, Tryz.ntmps65
          go_wp2_with (first
            | (go_at_call 99; refine (isLe_34 _).mono ?_; rintro e w2 ⟨rfl, rfl⟩)
            | (go_at_call 101; refine (isDg_34 _).mono ?_; rintro e w2 ⟨rfl, rfl⟩)
            | (go_at_call 103; refine (text_any _ hl h1 _).mono ?_; rintro e w3 ⟨rfl, hb⟩; rw [HF.out]; have HKB := hid (box_keep hb); have hfz := HKB.out.1.frozen; have hcs := HKB.out.1.cells; obtain ⟨hc0, hc1, hc2, hc3⟩ := hcs; clear hb))
          have hE := HKB.out.1.set4 (.int .i64 k) (.string (St s)) (.int .i64 n) (.int .i64 a)
          obtain ⟨d0, d1, d2, d3⟩ := hE.cells
          have HBB := hid (below_set4 HKB.out.2 (Nat.le_refl _) (.int .i64 k) (.string (St s)) (.int .i64 n) (.int .i64 a))
          refine bodyPost_ret (v := .tuple #[TV k s n a, .int .i64 m]) ?_ rfl ⟨?_, HBB.out⟩
          · clear hc0 hc1 hc2 hc3 hi
            simp [results, Tryz.results65, go_sem, d0, d1, d2, d3]
          · rw [HZ.out, HF.out]
        · have HZ := hid (HSg.out hc h45 hd h34)
          have h34I : ¬ (c.toNat : Int) = 34 := by omega
          obtain ⟨k, s, n, a, m, hf⟩ := ansV_form (signS l)
          have HF := hid hf
          clear hf HW HN HTx HSg
          go_enter Tryz.func65, Tryz.ntmps65
          go_wp2_with (first
            | (go_at_call 99; refine (isLe_any _ _).mono ?_; rintro e w2 ⟨rfl, rfl⟩; rw [hc])
            | (go_at_call 101; refine (isDg_any _ _).mono ?_; rintro e w2 ⟨rfl, rfl⟩; rw [hd])
            | (go_at_call 104; refine (sign_any _ _ (Sg.alloc hG.1 _)).mono ?_; rintro e w3 ⟨rfl, hb⟩; rw [HF.out]; have HKB := hid (box_keep hb); have hfz := HKB.out.1.frozen; have hcs := HKB.out.1.cells; obtain ⟨hc0, hc1, hc2, hc3⟩ := hcs; clear hb))
          have hE := HKB.out.1.set4 (.int .i64 k) (.string (St s)) (.int .i64 n) (.int .i64 a)
          obtain ⟨d0, d1, d2, d3⟩ := hE.cells
          have HBB := hid (below_set4 HKB.out.2 (Nat.le_refl _) (.int .i64 k) (.string (St s)) (.int .i64 n) (.int .i64 a))
          refine bodyPost_ret (v := .tuple #[TV k s n a, .int .i64 m]) ?_ rfl ⟨?_, HBB.out⟩
          · clear hc0 hc1 hc2 hc3 hi
            simp [results, Tryz.results65, go_sem, d0, d1, d2, d3]
          · rw [HZ.out, HF.out]
end Go.Proofs.YtomnjckbgmbgmaaGreatDoor
