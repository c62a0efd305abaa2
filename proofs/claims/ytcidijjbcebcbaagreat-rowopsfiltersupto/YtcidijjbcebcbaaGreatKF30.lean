/-
  Stage 16's examples, walked.
-/
import Derived.Test.YtcidijjbcebcbaaGreatKF29
namespace Go.Proofs.YtcidijjbcebcbaaGreat.RO
open Go.RowKit Go.Joins Go.Sort

set_option maxRecDepth 100000 in
set_option maxHeartbeats 4000000 in
theorem shown6_any (w : World) : Calls Tryz.prog 4 #[] w fun e w' => e = .returned (.bool true) ∧ Below w.heap.size w w' := by
  have HBo : Hid (Below w.heap.size w w) := Below.refl _ _
  go_enter Tryz.func4, Tryz.ntmps4
  go_upto_region 2 with (first
    | (go_at_call 10; refine (pairs_lit (ns := [-1, 0, 25, 1]) (n2 := 2) (alloc_block w _) rfl rfl (by decide)).mono ?_; rintro e w1a ⟨v1, rfl, ⟨p1, n1, c1, q1, m1, d1, rfl⟩, ht, hb⟩; have HT1 := hid ht; have HB1a := hid ((HBo.out.alloc HBo.out.size (.cells #[.int .i64 (-1), .int .i64 0, .int .i64 25, .int .i64 1] 3)).trans (hb.mono (Nat.le_trans HBo.out.size (by simp)))); have HL1a : Hid (Below w.heap.size w w1a) := ((Below.refl w.heap.size w).alloc (Nat.le_refl _) (.cells #[.int .i64 (-1), .int .i64 0, .int .i64 25, .int .i64 1] 3)).trans (hb.mono (by simp)); clear ht hb)
    | (go_at_call 9; refine (alA HT1.out).mono ?_; rintro e w1b ⟨v2, rfl, ⟨p11, n11, c11, q11, m11, d11, rfl⟩, ht, hb⟩; have HT1b := hid ht; have HB1b := hid (HB1a.out.trans (hb.mono HB1a.out.size)); have HL1b : Hid (Below w.heap.size w w1b) := HL1a.out.trans (hb.mono HL1a.out.size); clear ht hb HT1))
  have hal : Below w1b.heap.size w1b (w1b.alloc (.cells #[.slice p11 n11 c11, .slice q11 m11 d11] 25)) := (Below.refl _ _).alloc (Nat.le_refl _) _
  have HB1c := hid (HB1b.out.trans (hal.mono HB1b.out.size))
  have HL1c := hid (HL1b.out.trans (hal.mono HL1b.out.size))
  have K1_1 := hid (alloc_block w1b (.cells #[.slice p11 n11 c11, .slice q11 m11 d11] 25))
  have T1_1 := hid (HT1b.out.on hal)
  generalize w1b.alloc (.cells #[.slice p11 n11 c11, .slice q11 m11 d11] 25) = w1c at *
  generalize w1b.heap.size = b1 at *
  clear hal 
  go_upto_region 3 with (first
    | (go_at_call 10; refine (pairs_lit (ns := [1, 5, 2, 7, 3, 7]) (n2 := 3) (alloc_block w1c _) rfl rfl (by decide)).mono ?_; rintro e w2a ⟨v1, rfl, ⟨p1, n1, c1, q1, m1, d1, rfl⟩, ht, hb⟩; have HT1 := hid ht; have HB2a := hid ((HB1c.out.alloc HB1c.out.size (.cells #[.int .i64 1, .int .i64 5, .int .i64 2, .int .i64 7, .int .i64 3, .int .i64 7] 3)).trans (hb.mono (Nat.le_trans HB1c.out.size (by simp)))); have HL2a : Hid (Below w1c.heap.size w1c w2a) := ((Below.refl w1c.heap.size w1c).alloc (Nat.le_refl _) (.cells #[.int .i64 1, .int .i64 5, .int .i64 2, .int .i64 7, .int .i64 3, .int .i64 7] 3)).trans (hb.mono (by simp)); clear ht hb)
    | (go_at_call 11; refine (toA HT1.out).mono ?_; rintro e w2b ⟨v2, rfl, ⟨p12, n12, c12, q12, m12, d12, rfl⟩, ht, hb⟩; have HT2b := hid ht; have HB2b := hid (HB2a.out.trans (hb.mono HB2a.out.size)); have HL2b : Hid (Below w1c.heap.size w1c w2b) := HL2a.out.trans (hb.mono HL2a.out.size); clear ht hb HT1))
  have hal : Below w2b.heap.size w2b (w2b.alloc (.cells #[.slice p12 n12 c12, .slice q12 m12 d12] 25)) := (Below.refl _ _).alloc (Nat.le_refl _) _
  have HB2c := hid (HB2b.out.trans (hal.mono HB2b.out.size))
  have HL2c := hid (HL2b.out.trans (hal.mono HL2b.out.size))
  have K1_2 := hid (block_on K1_1.out HL2c.out)
  have T1_2 := hid (T1_1.out.on HL2c.out)
  have K2_2 := hid (alloc_block w2b (.cells #[.slice p12 n12 c12, .slice q12 m12 d12] 25))
  have T2_2 := hid (HT2b.out.on hal)
  generalize w2b.alloc (.cells #[.slice p12 n12 c12, .slice q12 m12 d12] 25) = w2c at *
  generalize w2b.heap.size = b2 at *
  clear hal K1_1 T1_1
  go_upto_region 4 with (first
    | (go_at_call 10; refine (pairs_lit (ns := [1, 5]) (n2 := 1) (alloc_block w2c _) rfl rfl (by decide)).mono ?_; rintro e w3a ⟨v1, rfl, ⟨p1, n1, c1, q1, m1, d1, rfl⟩, ht, hb⟩; have HT1 := hid ht; have HB3a := hid ((HB2c.out.alloc HB2c.out.size (.cells #[.int .i64 1, .int .i64 5] 3)).trans (hb.mono (Nat.le_trans HB2c.out.size (by simp)))); have HL3a : Hid (Below w2c.heap.size w2c w3a) := ((Below.refl w2c.heap.size w2c).alloc (Nat.le_refl _) (.cells #[.int .i64 1, .int .i64 5] 3)).trans (hb.mono (by simp)); clear ht hb)
    | (go_at_call 11; refine (toG HT1.out).mono ?_; rintro e w3b ⟨v2, rfl, ⟨p13, n13, c13, q13, m13, d13, rfl⟩, hb⟩; have HB3b := hid (HB3a.out.trans (hb.mono HB3a.out.size)); have HL3b : Hid (Below w2c.heap.size w2c w3b) := HL3a.out.trans (hb.mono HL3a.out.size); clear hb HT1))
  have hal : Below w3b.heap.size w3b (w3b.alloc (.cells #[.slice p13 n13 c13, .slice q13 m13 d13] 25)) := (Below.refl _ _).alloc (Nat.le_refl _) _
  have HB3c := hid (HB3b.out.trans (hal.mono HB3b.out.size))
  have HL3c := hid (HL3b.out.trans (hal.mono HL3b.out.size))
  have K1_3 := hid (block_on K1_2.out HL3c.out)
  have T1_3 := hid (T1_2.out.on HL3c.out)
  have K2_3 := hid (block_on K2_2.out HL3c.out)
  have T2_3 := hid (T2_2.out.on HL3c.out)
  generalize w3b.alloc (.cells #[.slice p13 n13 c13, .slice q13 m13 d13] 25) = w3c at *
  generalize w3b.heap.size = b3 at *
  clear hal K1_2 T1_2 K2_2 T2_2
  go_upto_region 5 with (first
    | (go_at_call 10; refine (pairs_lit (ns := [1, 5]) (n2 := 1) (alloc_block w3c _) rfl rfl (by decide)).mono ?_; rintro e w4a ⟨v1, rfl, ⟨p1, n1, c1, q1, m1, d1, rfl⟩, ht, hb⟩; have HT1 := hid ht; have HB4a := hid ((HB3c.out.alloc HB3c.out.size (.cells #[.int .i64 1, .int .i64 5] 3)).trans (hb.mono (Nat.le_trans HB3c.out.size (by simp)))); have HL4a : Hid (Below w3c.heap.size w3c w4a) := ((Below.refl w3c.heap.size w3c).alloc (Nat.le_refl _) (.cells #[.int .i64 1, .int .i64 5] 3)).trans (hb.mono (by simp)); clear ht hb)
    | (go_at_call 11; refine (toH HT1.out).mono ?_; rintro e w4b ⟨v2, rfl, ⟨p14, n14, c14, q14, m14, d14, rfl⟩, hb⟩; have HB4b := hid (HB4a.out.trans (hb.mono HB4a.out.size)); have HL4b : Hid (Below w3c.heap.size w3c w4b) := HL4a.out.trans (hb.mono HL4a.out.size); clear hb HT1))
  have hal : Below w4b.heap.size w4b (w4b.alloc (.cells #[.slice p14 n14 c14, .slice q14 m14 d14] 25)) := (Below.refl _ _).alloc (Nat.le_refl _) _
  have HB4c := hid (HB4b.out.trans (hal.mono HB4b.out.size))
  have HL4c := hid (HL4b.out.trans (hal.mono HL4b.out.size))
  have K1_4 := hid (block_on K1_3.out HL4c.out)
  have T1_4 := hid (T1_3.out.on HL4c.out)
  have K2_4 := hid (block_on K2_3.out HL4c.out)
  have T2_4 := hid (T2_3.out.on HL4c.out)
  generalize w4b.alloc (.cells #[.slice p14 n14 c14, .slice q14 m14 d14] 25) = w4c at *
  generalize w4b.heap.size = b4 at *
  clear hal K1_3 T1_3 K2_3 T2_3
  go_upto_region 6 with (first
    | (go_at_call 10; refine (pairs_lit (ns := [1, 5]) (n2 := 1) (alloc_block w4c _) rfl rfl (by decide)).mono ?_; rintro e w5a ⟨v1, rfl, ⟨p1, n1, c1, q1, m1, d1, rfl⟩, ht, hb⟩; have HT1 := hid ht; have HB5a := hid ((HB4c.out.alloc HB4c.out.size (.cells #[.int .i64 1, .int .i64 5] 3)).trans (hb.mono (Nat.le_trans HB4c.out.size (by simp)))); have HL5a : Hid (Below w4c.heap.size w4c w5a) := ((Below.refl w4c.heap.size w4c).alloc (Nat.le_refl _) (.cells #[.int .i64 1, .int .i64 5] 3)).trans (hb.mono (by simp)); clear ht hb)
    | (go_at_call 9; refine (alI HT1.out).mono ?_; rintro e w5b ⟨v2, rfl, ⟨p15, n15, c15, q15, m15, d15, rfl⟩, hb⟩; have HB5b := hid (HB5a.out.trans (hb.mono HB5a.out.size)); have HL5b : Hid (Below w4c.heap.size w4c w5b) := HL5a.out.trans (hb.mono HL5a.out.size); clear hb HT1))
  have hal : Below w5b.heap.size w5b (w5b.alloc (.cells #[.slice p15 n15 c15, .slice q15 m15 d15] 25)) := (Below.refl _ _).alloc (Nat.le_refl _) _
  have HB5c := hid (HB5b.out.trans (hal.mono HB5b.out.size))
  have HL5c := hid (HL5b.out.trans (hal.mono HL5b.out.size))
  have K1_5 := hid (block_on K1_4.out HL5c.out)
  have T1_5 := hid (T1_4.out.on HL5c.out)
  have K2_5 := hid (block_on K2_4.out HL5c.out)
  have T2_5 := hid (T2_4.out.on HL5c.out)
  generalize w5b.alloc (.cells #[.slice p15 n15 c15, .slice q15 m15 d15] 25) = w5c at *
  generalize w5b.heap.size = b5 at *
  clear hal K1_4 T1_4 K2_4 T2_4
  go_upto_region 6 with fail
  go_cut [11] from 43 to 46 (fun s wx => s = .bool true ∧ Hid (Below w5c.heap.size w5c wx))
  case first =>
    have y := block_cell K1_5.out
    have ka : ∀ (A : Obj) (j : Nat), (w5c.alloc A).cell? ⟨b1, j, none⟩ = _ := fun A j => block_cell (block_on K1_5.out ((Below.refl _ w5c).alloc (Nat.le_refl _) A)) j
    go_region_with (first | (go_at_call 10; refine (pairs_lit (ns := [-10, 0, 20, 1]) (n2 := 2) (by first | exact alloc_block _ _ | exact alloc_block w5c _ | exact alloc_block w5c.drew _) rfl rfl (by decide)).mono ?_; rintro e wa ⟨va, rfl, ⟨p1, n1, c1, q1, m1, d1, rfl⟩, ht, hb⟩; have HTa := hid ht; have HBa : Hid (Below w5c.heap.size w5c wa) := ((by first | exact (Below.refl w5c.heap.size w5c).drew.alloc (Nat.le_refl _) _ | exact ((Below.refl w5c.heap.size w5c).alloc (Nat.le_refl _) _).drew | exact (Below.refl w5c.heap.size w5c).alloc (Nat.le_refl _) _ : Below w5c.heap.size w5c _)).trans (hb.mono (by simp)); have ya := block_cell (block_on K1_5.out HBa.out); clear ht hb) | (go_at_call 8; refine (TN.rsame_any (T1_5.out.on HBa.out) HTa.out).mono ?_; rintro e wb ⟨rfl, hb⟩; have HBb := hid (HBa.out.trans (hb.mono HBa.out.size)); clear hb))
    all_goals
      go_wp2_with fail
      go_meet
      case rel => first | exact ⟨by simp, HBb.out⟩ | exact ⟨by rw [al], HBb.out⟩
  case rest =>
  obtain ⟨rfl, HC6⟩ := hcut
  obtain ⟨x6, hx6⟩ : ∃ x, x = wc := ⟨_, rfl⟩
  rw [← hx6] at HC6 ⊢
  clear hx6
  have K2_6 := hid (block_on K2_5.out HC6.out)
  have T2_6 := hid (T2_5.out.on HC6.out)
  go_upto_region 7 with fail
  go_cut [12] from 47 to 50 (fun s wx => s = .bool true ∧ Hid (Below x6.heap.size x6 wx))
  case first =>
    have y := block_cell K2_6.out
    have ka : ∀ (A : Obj) (j : Nat), (x6.alloc A).cell? ⟨b2, j, none⟩ = _ := fun A j => block_cell (block_on K2_6.out ((Below.refl _ x6).alloc (Nat.le_refl _) A)) j
    go_region_with (first | (go_at_call 10; refine (pairs_lit (ns := [2, 7, 3, 7]) (n2 := 2) (by first | exact alloc_block _ _ | exact alloc_block x6 _ | exact alloc_block x6.drew _) rfl rfl (by decide)).mono ?_; rintro e wa ⟨va, rfl, ⟨p1, n1, c1, q1, m1, d1, rfl⟩, ht, hb⟩; have HTa := hid ht; have HBa : Hid (Below x6.heap.size x6 wa) := ((by first | exact (Below.refl x6.heap.size x6).drew.alloc (Nat.le_refl _) _ | exact ((Below.refl x6.heap.size x6).alloc (Nat.le_refl _) _).drew | exact (Below.refl x6.heap.size x6).alloc (Nat.le_refl _) _ : Below x6.heap.size x6 _)).trans (hb.mono (by simp)); have ya := block_cell (block_on K2_6.out HBa.out); clear ht hb) | (go_at_call 8; refine (TN.rsame_any (T2_6.out.on HBa.out) HTa.out).mono ?_; rintro e wb ⟨rfl, hb⟩; have HBb := hid (HBa.out.trans (hb.mono HBa.out.size)); clear hb))
    all_goals
      go_wp2_with fail
      go_meet
      case rel => first | exact ⟨by simp, HBb.out⟩ | exact ⟨by rw [al], HBb.out⟩
  case rest =>
  obtain ⟨rfl, HC7⟩ := hcut
  obtain ⟨x7, hx7⟩ : ∃ x, x = wc := ⟨_, rfl⟩
  rw [← hx7] at HC7 ⊢
  clear hx7
  go_wp2_with fail
  go_ret
  exact ⟨rfl, (HB5c.out.trans (HC6.out.mono HB5c.out.size)).trans (HC7.out.mono (Nat.le_trans HB5c.out.size HC6.out.size))⟩
end Go.Proofs.YtcidijjbcebcbaaGreat.RO
