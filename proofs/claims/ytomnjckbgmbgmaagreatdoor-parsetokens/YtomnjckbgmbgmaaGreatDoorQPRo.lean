/-
  What Cond returns.
-/
import Derived.Test.YtomnjckbgmbgmaaGreatDoorQPRn
namespace Go.Proofs.YtomnjckbgmbgmaaGreatDoor
open Go.RowKit Go.Joins

section
variable {ts : List Tp} {w : World} {tv : Value}
set_option maxRecDepth 100000 in
set_option maxHeartbeats 1000000 in
theorem Cond_any (htok : SlAt (fun b => b < w.heap.size) Tp.cells 4 w tv ts) : Calls Tryz.prog 14 #[tv] w (WhP w (wholeS ts (condS ts 16))) := by
  have HB0 : Hid (Below w.heap.size w (w.alloc (.cells #[.slice none 0 0] 27))) := (Below.refl _ _).alloc (Nat.le_refl _) _
  have HZ := hid (alloc_block w (.cells #[.slice none 0 0] 27))
  have HC := hid (whole_cond ((htok.on HB0.out).imp (fun b hb => by simp; omega)))
  generalize wholeS ts (condS ts 16) = R at *
  generalize hW : w.alloc (.cells #[.slice none 0 0] 27) = w1 at *
  have HW := hid hW
  obtain ⟨p, cap, rfl, hc1, hc2⟩ := htok.form
  clear htok hW
  go_enter Tryz.func14, Tryz.ntmps14
  go_upto_region 1 with fail
  rw [HW.out]
  go_wp2_with (go_at_call 29; refine HC.out.mono ?_; rintro e w2 ⟨v, rfl, hn, hb⟩; have HX := hid (q_box HZ.out HB0.out hn hb); have kz := block_cell (block_on HZ.out hb); have fz := block_frozen (block_on HZ.out hb); obtain ⟨qs, ho, -⟩ := hn; obtain ⟨pv, cv, rfl⟩ := ho.form; clear hb ho)
  have k9 := block_cell HX.out.1
  refine bodyPost_ret (v := .tuple #[.agg #[.slice pv qs.length cv], .int .i64 (R.2.1 : Int), .int .i64 R.2.2]) (by simp [results, Tryz.results14, go_sem, k9]) rfl ?_
  exact ⟨_, rfl, HX.out.2.1, HX.out.2.2⟩
end
end Go.Proofs.YtomnjckbgmbgmaaGreatDoor
