/-
  ParseTexts's walk.
-/
import Derived.Test.YtomnjckbgmbgmaaGreatDoorQPRn
import Derived.Test.YtomnjckbgmbgmaaGreatDoorPKt
import Derived.Test.YtomnjckbgmbgmaaGreatDoorQSameQ
namespace Go.Proofs.YtomnjckbgmbgmaaGreatDoor
open Go.RowKit Go.Joins Go.Sort Go.Maps Go.Shelf

set_option maxRecDepth 100000 in
set_option maxHeartbeats 4000000 in
/-- ParseTexts, at any text -/
theorem texts_any (l : List UInt8) (hl : (l.length : Int) ≤ 140737488355328) (w : World) (hG : Gd w) : Calls Tryz.prog 4 #[.string (St l)] w fun e w' => e = .returned (.bool true) ∧ Below w.heap.size w w' := by
  have HG := hid hG
  have HS := hid (shown_any w hG)
  have HQ := hid (fun w hG => Query_any l hl w hG)
  have HR := hid (fun w => RQuery_any l hl w)
  generalize queryO l = R at *
  obtain ⟨A, pa, ea⟩ := R
  have b1 : ((pa : Int) == (pa : Int)) = true := by simp
  have b2 : (ea == ea) = true := by simp
  clear hG
  go_enter Tryz.func4, Tryz.ntmps4
  go_upto_region 4 with (first
    | (go_at_call 9; refine HS.out.mono ?_; rintro e w1 ⟨rfl, hb⟩; have HB1 := hid hb; clear hb)
    | (go_at_call 16; refine (HQ.out _ (HG.out.next HB1.out)).mono ?_; rintro e w2 ⟨va, rfl, hna, hb⟩; obtain ⟨p1, c1, rfl, ca1, ca2⟩ := hna.len; have HB2 := hid ((HB1.out.trans (hb.mono HB1.out.size)).alloc (Nat.le_trans HB1.out.size hb.size) (.cells #[.slice p1 A.length c1] 27)); have HNA := hid (hna.on ((Below.refl _ _).alloc (Nat.le_refl _) (.cells #[.slice p1 A.length c1] 27))); have HXA := hid (alloc_block w2 (.cells #[.slice p1 A.length c1] 27)); clear hna hb ca1 ca2)
    | (go_at_call 17; refine (HR.out _).mono ?_; rintro e w3 ⟨vb, rfl, hnb, hb⟩; obtain ⟨p2, c2, rfl, cb1, cb2⟩ := hnb.len; have HB3 := hid ((HB2.out.trans (hb.mono HB2.out.size)).alloc (Nat.le_trans HB2.out.size hb.size) (.cells #[.slice p2 A.length c2] 27)); have HNB := hid (hnb.on ((Below.refl _ _).alloc (Nat.le_refl _) (.cells #[.slice p2 A.length c2] 27))); have HXB := hid (alloc_block w3 (.cells #[.slice p2 A.length c2] 27)); have HNA3 := hid (HNA.out.on (hb.alloc hb.size (.cells #[.slice p2 A.length c2] 27))); have HXA3 := hid (block_on HXA.out (hb.alloc hb.size (.cells #[.slice p2 A.length c2] 27))); clear hnb hb cb1 cb2))
  generalize w3.alloc (.cells #[.slice p2 A.length c2] 27) = W3 at *
  generalize w2.heap.size = bA at *
  generalize w3.heap.size = bB at *
  have cA := block_cell HXA3.out 0
  have cB := block_cell HXB.out 0
  go_wp2_with (go_at_call 13; refine (same_is (ns := A) HNA3.out HNB.out).mono ?_; rintro e w6 ⟨rfl, hb⟩; have HB6 := hid hb; clear hb)
  go_ret
  exact ⟨rfl, HB3.out.trans (HB6.out.mono HB3.out.size)⟩
end Go.Proofs.YtomnjckbgmbgmaaGreatDoor
