/-
  ParseBrackets's walk.
-/
import Derived.Test.YtomnjckbgmbgmaaGreatDoorQBrO
import Derived.Test.YtomnjckbgmbgmaaGreatDoorQPRo
import Derived.Test.YtomnjckbgmbgmaaGreatDoorQRLex
import Derived.Test.YtomnjckbgmbgmaaGreatDoorQShn
import Derived.Test.YtomnjckbgmbgmaaGreatDoorQSameQ
import Derived.Deep.RegionHeldLaw
import Derived.Deep.QuietTactic
import Derived.BigQuiet
namespace Go.Proofs.YtomnjckbgmbgmaaGreatDoor
open Go.RowKit Go.Joins Go.Sort Go.Maps Go.Shelf

theorem St_cat (x y : List UInt8) : St x ++ St y = St (x ++ y) := by
  unfold St
  apply ByteArray.ext
  simp
set_option maxRecDepth 100000 in
set_option maxHeartbeats 4000000 in
/-- ParseBrackets, at any text -/
theorem brack_any (l : List UInt8) (hl : (l.length : Int) ≤ 140737488351232) (w : World) (hG : Gd w) : Calls Tryz.prog 5 #[.string (St l)] w fun e w' => e = .returned (.bool true) ∧ Below w.heap.size w w' := by
  have HG := hid hG
  have HS := hid (shown_any w hG)
  have hs1 := St_size l
  by_cases h900 : 900 < l.length
  · have hI : 900 < (l.length : Int) := by omega
    go_enter Tryz.func5, Tryz.ntmps5
    go_wp2_with (go_at_call 9; refine HS.out.mono ?_; rintro e w1 ⟨rfl, hb⟩; have HB1 := hid hb; clear hb)
    go_ret
    exact ⟨rfl, HB1.out⟩
  · have hI : ¬ 900 < (l.length : Int) := by omega
    obtain ⟨c1, hlit1, hc1⟩ : ∃ c, (⟨#[102, 101, 116, 99, 104, 32, 120, 32, 124, 32, 119, 104, 101, 114, 101, 32]⟩ : ByteArray) = St c ∧ c = [102, 101, 116, 99, 104, 32, 120, 32, 124, 32, 119, 104, 101, 114, 101, 32] := ⟨_, rfl, rfl⟩
    obtain ⟨c2, hlit2, hc2⟩ : ∃ c, (⟨#[102, 101, 116, 99, 104, 32, 120, 32, 124, 32, 119, 104, 101, 114, 101, 32, 40]⟩ : ByteArray) = St c ∧ c = [102, 101, 116, 99, 104, 32, 120, 32, 124, 32, 119, 104, 101, 114, 101, 32, 40] := ⟨_, rfl, rfl⟩
    obtain ⟨c3, hlit3, hc3⟩ : ∃ c, (⟨#[41, 32]⟩ : ByteArray) = St c ∧ c = [41, 32] := ⟨_, rfl, rfl⟩
    have hcat1 : St c1 ++ St l = St (preW ++ 32 :: l) := by rw [St_cat, hc1]; rfl
    have hcat2 : St c2 ++ St l = St (preW ++ 32 :: 40 :: l) := by rw [St_cat, hc2]; rfl
    have hcat3 : St (preW ++ 32 :: 40 :: l) ++ St c3 = St (preW ++ 32 :: 40 :: (l ++ [41, 32])) := by rw [St_cat, hc3]; simp
    have hp : preW.length = 15 := rfl
    have HQ := hid (fun w hG => Query_any (preW ++ 32 :: l) (by simp [hp]; omega) w hG)
    have HQ2 := hid (fun w hG => Query_any (preW ++ 32 :: 40 :: (l ++ [41, 32])) (by simp [hp]; omega) w hG)
    have HL := hid (fun w => rlex_any l (by omega) w)
    have HC := hid (br_is l)
    have hs2 := St_size (preW ++ 32 :: 40 :: l)
    have hs3 : (preW ++ 32 :: 40 :: l).length = l.length + 17 := by simp [hp]; omega
    have hsz1 : ¬ 9223372036854775807 < (St c1).size + (St l).size := by rw [hs1, St_size, hc1]; simp only [List.length_cons, List.length_nil]; omega
    have hsz2 : ¬ 9223372036854775807 < (St c2).size + (St l).size := by rw [hs1, St_size, hc2]; simp only [List.length_cons, List.length_nil]; omega
    have hsz3 : ¬ 9223372036854775807 < (St (preW ++ 32 :: 40 :: l)).size + (St c3).size := by rw [hs2, hs3, St_size, hc3]; simp only [List.length_cons, List.length_nil]; omega
    clear hs2 hs3 hp hG hc1 hc2 hc3
    unfold LexP at HL
    generalize queryO (preW ++ 32 :: l) = R at *
    generalize queryO (preW ++ 32 :: 40 :: (l ++ [41, 32])) = R2 at *
    generalize lexO l = O at *
    generalize preW ++ 32 :: l = x1 at *
    generalize preW ++ 32 :: 40 :: (l ++ [41, 32]) = x3 at *
    generalize preW ++ 32 :: 40 :: l = x2 at *
    obtain ⟨A, pa, ea⟩ := R
    obtain ⟨Bn, pb, eb⟩ := R2
    obtain ⟨tks, pt, eg⟩ := O
    have HD : Hid (∀ {w : World} {tv : Value}, SlAt (fun b => b < w.heap.size) Tp.cells 4 w tv (tks.map tp) → Calls Tryz.prog 14 #[tv] w (WhP w (wholeS (tks.map tp) (condS (tks.map tp) 16)))) := fun h => Cond_any h
    generalize wholeS (tks.map tp) (condS (tks.map tp) 16) = C at *
    obtain ⟨Cn, pc, eh⟩ := C
    simp only at HC HL
    clear h900
    by_cases h0 : eg = 0
    rotate_left
    · skip
      have b0 : (eg != 0) = true := by simp [h0]
      clear HC h0
      go_enter Tryz.func5, Tryz.ntmps5
      have M1 : Hid True := trivial
      have M2 : Hid True := trivial
      go_wp2_with (first
        | (go_at_call 9; refine HS.out.mono ?_; rintro e w1 ⟨rfl, hb⟩; have HB1 := hid hb; clear hb)
        | (go_at_call 16; have FIRST := M1; refine (HQ.out _ (HG.out.next HB1.out)).mono ?_; rintro e w2 ⟨va, rfl, hna, hb⟩; obtain ⟨p1, c1, rfl, ca1, ca2⟩ := hna.len; have HB2 := hid ((HB1.out.trans (hb.mono HB1.out.size)).alloc (Nat.le_trans HB1.out.size hb.size) (.cells #[.slice p1 A.length c1] 27)); have HNA := hid (hna.on ((Below.refl _ _).alloc (Nat.le_refl _) (.cells #[.slice p1 A.length c1] 27))); have HXA := hid (alloc_block w2 (.cells #[.slice p1 A.length c1] 27)); clear hna hb FIRST M1 ca1 ca2)
        | (go_at_call 16; have FIRST := M2; refine (HQ2.out _ (HG.out.next HB2.out)).mono ?_; rintro e w3 ⟨vb, rfl, hnb, hb⟩; obtain ⟨p2, c2, rfl, cb1, cb2⟩ := hnb.len; have HB3 := hid ((HB2.out.trans (hb.mono HB2.out.size)).alloc (Nat.le_trans HB2.out.size hb.size) (.cells #[.slice p2 Bn.length c2] 27)); have HNB := hid (hnb.on ((Below.refl _ _).alloc (Nat.le_refl _) (.cells #[.slice p2 Bn.length c2] 27))); have HXB := hid (alloc_block w3 (.cells #[.slice p2 Bn.length c2] 27)); have HNA3 := hid (HNA.out.on (hb.alloc hb.size (.cells #[.slice p2 Bn.length c2] 27))); have HXA3 := hid (block_on HXA.out (hb.alloc hb.size (.cells #[.slice p2 Bn.length c2] 27))); clear hnb hb FIRST M2 cb1 cb2)
        | (go_at_call 18; refine (HL.out _).mono ?_; rintro e w4 ⟨tv, rfl, ht, hb⟩; have HT := hid ht.sl; have HB4 := hid (HB3.out.trans (hb.mono HB3.out.size)); have HNA4 := hid (HNA3.out.on hb); have HXA4 := hid (block_on HXA3.out hb); have HNB4 := hid (HNB.out.on hb); have HXB4 := hid (block_on HXB.out hb); clear ht hb)
        | (go_at_call 14; refine (HD.out HT.out).mono ?_; rintro e w5 ⟨vc, rfl, hnc, hb⟩; obtain ⟨p5, c5, rfl, cd1, cd2⟩ := hnc.len; have HB5 := hid ((HB4.out.trans (hb.mono HB4.out.size)).alloc (Nat.le_trans HB4.out.size hb.size) (.cells #[.slice p5 Cn.length c5] 27)); have HZ5 := hid (hb.alloc hb.size (.cells #[.slice p5 Cn.length c5] 27)); have HNA5 := hid (HNA4.out.on HZ5.out); have HXA5 := hid (block_on HXA4.out HZ5.out); have HNB5 := hid (HNB4.out.on HZ5.out); have HXB5 := hid (block_on HXB4.out HZ5.out); clear hnc hb cd1 cd2))
      go_ret
      exact ⟨rfl, HB5.out⟩
    subst h0
    by_cases h0 : eh = 0
    rotate_left
    · skip
      have b0 : (eh != 0) = true := by simp [h0]
      clear HC h0
      go_enter Tryz.func5, Tryz.ntmps5
      have M1 : Hid True := trivial
      have M2 : Hid True := trivial
      go_wp2_with (first
        | (go_at_call 9; refine HS.out.mono ?_; rintro e w1 ⟨rfl, hb⟩; have HB1 := hid hb; clear hb)
        | (go_at_call 16; have FIRST := M1; refine (HQ.out _ (HG.out.next HB1.out)).mono ?_; rintro e w2 ⟨va, rfl, hna, hb⟩; obtain ⟨p1, c1, rfl, ca1, ca2⟩ := hna.len; have HB2 := hid ((HB1.out.trans (hb.mono HB1.out.size)).alloc (Nat.le_trans HB1.out.size hb.size) (.cells #[.slice p1 A.length c1] 27)); have HNA := hid (hna.on ((Below.refl _ _).alloc (Nat.le_refl _) (.cells #[.slice p1 A.length c1] 27))); have HXA := hid (alloc_block w2 (.cells #[.slice p1 A.length c1] 27)); clear hna hb FIRST M1 ca1 ca2)
        | (go_at_call 16; have FIRST := M2; refine (HQ2.out _ (HG.out.next HB2.out)).mono ?_; rintro e w3 ⟨vb, rfl, hnb, hb⟩; obtain ⟨p2, c2, rfl, cb1, cb2⟩ := hnb.len; have HB3 := hid ((HB2.out.trans (hb.mono HB2.out.size)).alloc (Nat.le_trans HB2.out.size hb.size) (.cells #[.slice p2 Bn.length c2] 27)); have HNB := hid (hnb.on ((Below.refl _ _).alloc (Nat.le_refl _) (.cells #[.slice p2 Bn.length c2] 27))); have HXB := hid (alloc_block w3 (.cells #[.slice p2 Bn.length c2] 27)); have HNA3 := hid (HNA.out.on (hb.alloc hb.size (.cells #[.slice p2 Bn.length c2] 27))); have HXA3 := hid (block_on HXA.out (hb.alloc hb.size (.cells #[.slice p2 Bn.length c2] 27))); clear hnb hb FIRST M2 cb1 cb2)
        | (go_at_call 18; refine (HL.out _).mono ?_; rintro e w4 ⟨tv, rfl, ht, hb⟩; have HT := hid ht.sl; have HB4 := hid (HB3.out.trans (hb.mono HB3.out.size)); have HNA4 := hid (HNA3.out.on hb); have HXA4 := hid (block_on HXA3.out hb); have HNB4 := hid (HNB.out.on hb); have HXB4 := hid (block_on HXB.out hb); clear ht hb)
        | (go_at_call 14; refine (HD.out HT.out).mono ?_; rintro e w5 ⟨vc, rfl, hnc, hb⟩; obtain ⟨p5, c5, rfl, cd1, cd2⟩ := hnc.len; have HB5 := hid ((HB4.out.trans (hb.mono HB4.out.size)).alloc (Nat.le_trans HB4.out.size hb.size) (.cells #[.slice p5 Cn.length c5] 27)); have HZ5 := hid (hb.alloc hb.size (.cells #[.slice p5 Cn.length c5] 27)); have HNA5 := hid (HNA4.out.on HZ5.out); have HXA5 := hid (block_on HXA4.out HZ5.out); have HNB5 := hid (HNB4.out.on HZ5.out); have HXB5 := hid (block_on HXB4.out HZ5.out); clear hnc hb cd1 cd2))
      go_ret
      exact ⟨rfl, HB5.out⟩
    subst h0
    by_cases h0 : ea = 0
    rotate_left
    · skip
      have b0 : (ea != 0) = true := by simp [h0]
      clear HC h0
      go_enter Tryz.func5, Tryz.ntmps5
      have M1 : Hid True := trivial
      have M2 : Hid True := trivial
      go_wp2_with (first
        | (go_at_call 9; refine HS.out.mono ?_; rintro e w1 ⟨rfl, hb⟩; have HB1 := hid hb; clear hb)
        | (go_at_call 16; have FIRST := M1; refine (HQ.out _ (HG.out.next HB1.out)).mono ?_; rintro e w2 ⟨va, rfl, hna, hb⟩; obtain ⟨p1, c1, rfl, ca1, ca2⟩ := hna.len; have HB2 := hid ((HB1.out.trans (hb.mono HB1.out.size)).alloc (Nat.le_trans HB1.out.size hb.size) (.cells #[.slice p1 A.length c1] 27)); have HNA := hid (hna.on ((Below.refl _ _).alloc (Nat.le_refl _) (.cells #[.slice p1 A.length c1] 27))); have HXA := hid (alloc_block w2 (.cells #[.slice p1 A.length c1] 27)); clear hna hb FIRST M1 ca1 ca2)
        | (go_at_call 16; have FIRST := M2; refine (HQ2.out _ (HG.out.next HB2.out)).mono ?_; rintro e w3 ⟨vb, rfl, hnb, hb⟩; obtain ⟨p2, c2, rfl, cb1, cb2⟩ := hnb.len; have HB3 := hid ((HB2.out.trans (hb.mono HB2.out.size)).alloc (Nat.le_trans HB2.out.size hb.size) (.cells #[.slice p2 Bn.length c2] 27)); have HNB := hid (hnb.on ((Below.refl _ _).alloc (Nat.le_refl _) (.cells #[.slice p2 Bn.length c2] 27))); have HXB := hid (alloc_block w3 (.cells #[.slice p2 Bn.length c2] 27)); have HNA3 := hid (HNA.out.on (hb.alloc hb.size (.cells #[.slice p2 Bn.length c2] 27))); have HXA3 := hid (block_on HXA.out (hb.alloc hb.size (.cells #[.slice p2 Bn.length c2] 27))); clear hnb hb FIRST M2 cb1 cb2)
        | (go_at_call 18; refine (HL.out _).mono ?_; rintro e w4 ⟨tv, rfl, ht, hb⟩; have HT := hid ht.sl; have HB4 := hid (HB3.out.trans (hb.mono HB3.out.size)); have HNA4 := hid (HNA3.out.on hb); have HXA4 := hid (block_on HXA3.out hb); have HNB4 := hid (HNB.out.on hb); have HXB4 := hid (block_on HXB.out hb); clear ht hb)
        | (go_at_call 14; refine (HD.out HT.out).mono ?_; rintro e w5 ⟨vc, rfl, hnc, hb⟩; obtain ⟨p5, c5, rfl, cd1, cd2⟩ := hnc.len; have HB5 := hid ((HB4.out.trans (hb.mono HB4.out.size)).alloc (Nat.le_trans HB4.out.size hb.size) (.cells #[.slice p5 Cn.length c5] 27)); have HZ5 := hid (hb.alloc hb.size (.cells #[.slice p5 Cn.length c5] 27)); have HNA5 := hid (HNA4.out.on HZ5.out); have HXA5 := hid (block_on HXA4.out HZ5.out); have HNB5 := hid (HNB4.out.on HZ5.out); have HXB5 := hid (block_on HXB4.out HZ5.out); clear hnc hb cd1 cd2))
      go_ret
      exact ⟨rfl, HB5.out⟩
    subst h0
    by_cases h0 : eb = 0
    rotate_left
    · skip
      have b0 : (eb != 0) = true := by simp [h0]
      clear HC h0
      go_enter Tryz.func5, Tryz.ntmps5
      have M1 : Hid True := trivial
      have M2 : Hid True := trivial
      go_wp2_with (first
        | (go_at_call 9; refine HS.out.mono ?_; rintro e w1 ⟨rfl, hb⟩; have HB1 := hid hb; clear hb)
        | (go_at_call 16; have FIRST := M1; refine (HQ.out _ (HG.out.next HB1.out)).mono ?_; rintro e w2 ⟨va, rfl, hna, hb⟩; obtain ⟨p1, c1, rfl, ca1, ca2⟩ := hna.len; have HB2 := hid ((HB1.out.trans (hb.mono HB1.out.size)).alloc (Nat.le_trans HB1.out.size hb.size) (.cells #[.slice p1 A.length c1] 27)); have HNA := hid (hna.on ((Below.refl _ _).alloc (Nat.le_refl _) (.cells #[.slice p1 A.length c1] 27))); have HXA := hid (alloc_block w2 (.cells #[.slice p1 A.length c1] 27)); clear hna hb FIRST M1 ca1 ca2)
        | (go_at_call 16; have FIRST := M2; refine (HQ2.out _ (HG.out.next HB2.out)).mono ?_; rintro e w3 ⟨vb, rfl, hnb, hb⟩; obtain ⟨p2, c2, rfl, cb1, cb2⟩ := hnb.len; have HB3 := hid ((HB2.out.trans (hb.mono HB2.out.size)).alloc (Nat.le_trans HB2.out.size hb.size) (.cells #[.slice p2 Bn.length c2] 27)); have HNB := hid (hnb.on ((Below.refl _ _).alloc (Nat.le_refl _) (.cells #[.slice p2 Bn.length c2] 27))); have HXB := hid (alloc_block w3 (.cells #[.slice p2 Bn.length c2] 27)); have HNA3 := hid (HNA.out.on (hb.alloc hb.size (.cells #[.slice p2 Bn.length c2] 27))); have HXA3 := hid (block_on HXA.out (hb.alloc hb.size (.cells #[.slice p2 Bn.length c2] 27))); clear hnb hb FIRST M2 cb1 cb2)
        | (go_at_call 18; refine (HL.out _).mono ?_; rintro e w4 ⟨tv, rfl, ht, hb⟩; have HT := hid ht.sl; have HB4 := hid (HB3.out.trans (hb.mono HB3.out.size)); have HNA4 := hid (HNA3.out.on hb); have HXA4 := hid (block_on HXA3.out hb); have HNB4 := hid (HNB.out.on hb); have HXB4 := hid (block_on HXB.out hb); clear ht hb)
        | (go_at_call 14; refine (HD.out HT.out).mono ?_; rintro e w5 ⟨vc, rfl, hnc, hb⟩; obtain ⟨p5, c5, rfl, cd1, cd2⟩ := hnc.len; have HB5 := hid ((HB4.out.trans (hb.mono HB4.out.size)).alloc (Nat.le_trans HB4.out.size hb.size) (.cells #[.slice p5 Cn.length c5] 27)); have HZ5 := hid (hb.alloc hb.size (.cells #[.slice p5 Cn.length c5] 27)); have HNA5 := hid (HNA4.out.on HZ5.out); have HXA5 := hid (block_on HXA4.out HZ5.out); have HNB5 := hid (HNB4.out.on HZ5.out); have HXB5 := hid (block_on HXB4.out HZ5.out); clear hnc hb cd1 cd2))
      go_ret
      exact ⟨rfl, HB5.out⟩
    subst h0
    obtain rfl := HC.out rfl rfl
    clear HC
    go_enter Tryz.func5, Tryz.ntmps5
    have M1 : Hid True := trivial
    have M2 : Hid True := trivial
    go_upto_region 10 with (first
      | (go_at_call 9; refine HS.out.mono ?_; rintro e w1 ⟨rfl, hb⟩; have HB1 := hid hb; clear hb)
      | (go_at_call 16; have FIRST := M1; refine (HQ.out _ (HG.out.next HB1.out)).mono ?_; rintro e w2 ⟨va, rfl, hna, hb⟩; obtain ⟨p1, c1, rfl, ca1, ca2⟩ := hna.len; have HB2 := hid ((HB1.out.trans (hb.mono HB1.out.size)).alloc (Nat.le_trans HB1.out.size hb.size) (.cells #[.slice p1 A.length c1] 27)); have HNA := hid (hna.on ((Below.refl _ _).alloc (Nat.le_refl _) (.cells #[.slice p1 A.length c1] 27))); have HXA := hid (alloc_block w2 (.cells #[.slice p1 A.length c1] 27)); clear hna hb FIRST M1 ca1 ca2)
      | (go_at_call 16; have FIRST := M2; refine (HQ2.out _ (HG.out.next HB2.out)).mono ?_; rintro e w3 ⟨vb, rfl, hnb, hb⟩; obtain ⟨p2, c2, rfl, cb1, cb2⟩ := hnb.len; have HB3 := hid ((HB2.out.trans (hb.mono HB2.out.size)).alloc (Nat.le_trans HB2.out.size hb.size) (.cells #[.slice p2 A.length c2] 27)); have HNB := hid (hnb.on ((Below.refl _ _).alloc (Nat.le_refl _) (.cells #[.slice p2 A.length c2] 27))); have HXB := hid (alloc_block w3 (.cells #[.slice p2 A.length c2] 27)); have HNA3 := hid (HNA.out.on (hb.alloc hb.size (.cells #[.slice p2 A.length c2] 27))); have HXA3 := hid (block_on HXA.out (hb.alloc hb.size (.cells #[.slice p2 A.length c2] 27))); clear hnb hb FIRST M2 cb1 cb2)
      | (go_at_call 18; refine (HL.out _).mono ?_; rintro e w4 ⟨tv, rfl, ht, hb⟩; have HT := hid ht.sl; have HB4 := hid (HB3.out.trans (hb.mono HB3.out.size)); have HNA4 := hid (HNA3.out.on hb); have HXA4 := hid (block_on HXA3.out hb); have HNB4 := hid (HNB.out.on hb); have HXB4 := hid (block_on HXB.out hb); clear ht hb)
      | (go_at_call 14; refine (HD.out HT.out).mono ?_; rintro e w5 ⟨vc, rfl, hnc, hb⟩; obtain ⟨p5, c5, rfl, cd1, cd2⟩ := hnc.len; have HB5 := hid ((HB4.out.trans (hb.mono HB4.out.size)).alloc (Nat.le_trans HB4.out.size hb.size) (.cells #[.slice p5 Cn.length c5] 27)); have HZ5 := hid (hb.alloc hb.size (.cells #[.slice p5 Cn.length c5] 27)); have HNA5 := hid (HNA4.out.on HZ5.out); have HXA5 := hid (block_on HXA4.out HZ5.out); have HNB5 := hid (HNB4.out.on HZ5.out); have HXB5 := hid (block_on HXB4.out HZ5.out); clear hnc hb cd1 cd2))
    generalize w5.alloc (.cells #[.slice p5 Cn.length c5] 27) = W5 at *
    generalize w2.heap.size = bA at *
    generalize w3.heap.size = bB at *
    have cA := block_cell HXA5.out 0
    have cB := block_cell HXB5.out 0
    go_wp2_with (go_at_call 13; refine (same_is (ns := A) HNA5.out HNB5.out).mono ?_; rintro e w6 ⟨rfl, hb⟩; have HB6 := hid hb; clear hb)
    go_ret
    exact ⟨rfl, HB5.out.trans (HB6.out.mono HB5.out.size)⟩
end Go.Proofs.YtomnjckbgmbgmaaGreatDoor
