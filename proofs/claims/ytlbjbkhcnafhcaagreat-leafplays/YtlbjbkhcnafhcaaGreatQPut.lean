/-
  What wire.Put returns, for every value.
-/
import Derived.Test.YtlbjbkhcnafhcaaGreatQTake2
namespace Go.Proofs.YtlbjbkhcnafhcaaGreat.SN
open Go.RowKit Go.Sort

theorem valid_iss {x : Vl} {r : Bool} {w : World} (h : validL x = r) : Calls Tryz.prog 77 #[x.val] w fun e w' => e = .returned (.bool r) ∧ Below w.heap.size w w' := by rw [← h]; exact valid_any
set_option maxRecDepth 100000 in
set_option maxHeartbeats 1000000 in
theorem put_bad {v : Value} {x : Vl} {w : World} (h : validL x = false) :
    Calls Tryz.prog 78 #[v, x.val] w fun e w' => e = .returned (.tuple #[.slice none 0 0, .int .i64 10]) ∧ Below w.heap.size w w' := by
  have HV := hid h
  clear h
  have HB := hid ((Below.refl w.heap.size w).alloc (Nat.le_refl _) (.cells (vcl x) 40))
  go_enter Tryz.func78, Tryz.ntmps78
  go_wp2_with (first
    | (go_at_call 77; refine (valid_iss HV.out).mono ?_; rintro e w1 ⟨rfl, hb1⟩))
  exact bodyPost_ret (v := .tuple #[.slice none 0 0, .int .i64 10]) (by simp [results, Tryz.results78, go_sem]) rfl ⟨rfl, below_on HB.out hb1⟩
set_option maxRecDepth 100000 in
set_option maxHeartbeats 1000000 in
theorem put_ok {v : Value} {xs : List UInt8} {x : Vl} {w : World} (hv : BAt w v xs) (h : validL x = true) (hl : xs.length + 200 ≤ 140737488355328) (hs : x.s.size ≤ 64) :
    Calls Tryz.prog 78 #[v, x.val] w fun e w' => ∃ v', e = .returned (.tuple #[v', .int .i64 0]) ∧ OwnB w.heap.size w' v' (xs ++ valB x) ∧ Below w.heap.size w w' := by
  have HV := hid h
  have HX := hid hv
  have HL := hid hl
  have HS := hid hs
  clear h hl hs
  obtain ⟨p, cap, rfl, -⟩ := hv
  have HB := hid ((Below.refl w.heap.size w).alloc (Nat.le_refl _) (.cells (vcl x) 40))
  have KB := hid (alloc_block w (.cells (vcl x) 40))
  go_enter Tryz.func78, Tryz.ntmps78
  go_wp2_with (first
    | (go_at_call 77; refine (valid_iss HV.out).mono ?_; rintro e w1 ⟨rfl, hb1⟩; have HB1 := hid (below_on HB.out hb1); have KB1 := hid (block_on KB.out hb1); have kb1 := block_cell KB1.out; have lt1 := lt_of_block KB1.out; clear hb1))
  go_region_with (first
    | (go_at_call 105; refine (cloneB_any (HX.out.on (HB1.out.trans (Below.refl _ _).drew)) (by have := HL.out; omega)).mono ?_; rintro e w2 ⟨v2, rfl, hown2, hb2⟩; have HO2 := hid hown2; have HB2 := hid hb2; have kb2 := block_cell (block_on (w := w1.drew) KB1.out hb2); obtain ⟨p2, c2, rfl⟩ := hown2.form; clear hown2 hb2)
    | (go_at_call 104; refine (appVal_any HO2.out HB2.out.size (by have := HL.out; have := HS.out; omega)).mono ?_; rintro e w3 ⟨v3, rfl, hown3, hf3⟩; have HO3 := hid hown3; have HF3 := hid hf3; obtain ⟨p3, c3, rfl⟩ := hown3.form; clear hown3 hf3))
  all_goals
    go_wp2
    exact bodyPost_ret (v := .tuple #[.slice p3 _ c3, .int .i64 0]) (by simp [results, Tryz.results78, go_sem]) rfl ⟨_, rfl, HO3.out.le HB1.out.size, HB1.out.trans ((Below.refl _ _).drew.trans ((HB2.out.trans HF3.out.low).mono HB1.out.size))⟩
end Go.Proofs.YtlbjbkhcnafhcaaGreat.SN
