/-
  The walk of catchmentlaw03.CrcSlots.
-/
import Derived.Test.YtolfafmpemmfiaaShown
namespace Go.Proofs.Ytolfafmpemmfiaa
open Go.RowKit

theorem wrap_q (q : W32) : wrap64 (u q) = u q := by
  have := u_range q
  unfold wrap64; omega
theorem ret_bool {a b : Bool} (h : a = b) : Ending.returned (.bool a) = .returned (.bool b) := by rw [h]
set_option maxRecDepth 100000 in
set_option maxHeartbeats 400000 in
theorem slots_any {v : Value} {xs : List UInt8} {n : Int} {w : World} (hv : BAt w v xs) (hn : n ≤ 9223372036854775807) : Calls Try.prog 6 #[v, .int .i64 n] w fun e w' => e = .returned (.bool true) ∧ Below w.heap.size w w' := by
  have HV := hid hv
  obtain ⟨p, cap, rfl, -, -, -, -⟩ := hv
  by_cases h : n < 1
  · have h0 := slot_less (xs := xs) h
    generalize hs : slot xs n = r at *
    have HS := hid hs
    clear hs
    go_enter Try.func6, Try.ntmps6
    go_wp2_with (first
      | (go_at_call 7; refine shown_any.mono ?_; rintro e w1 ⟨rfl, hb⟩; have HB := hid hb; clear hb)
      | (go_at_call 10; refine (slot_any (HV.out.on HB.out) hn).mono ?_; rintro e w' ⟨rfl, rfl⟩; rw [HS.out]))
    go_ret
    exact ⟨rfl, HB.out⟩
  · have hr := u_range (sum xs)
    have h0 := hid (slot_range (xs := xs) h)
    have HT := hid (slot_is (xs := xs) h)
    have hr0 := hr.1
    clear hr
    generalize hq : sum xs = q at *
    generalize hs : slot xs n = r at *
    have HQ := hid hq
    have HP := hid hs
    clear hs hq
    go_enter Try.func6, Try.ntmps6
    go_wp2_with (first | (go_at_call 7; refine shown_any.mono ?_; rintro e w1 ⟨rfl, hb⟩; have HB := hid hb; clear hb) | (go_at_call 10; refine (slot_any (HV.out.on HB.out) hn).mono ?_; rintro e w' ⟨rfl, rfl⟩; rw [HP.out]) | (go_at_call 8; refine (sum_any (HV.out.on HB.out)).mono ?_; rintro e w' ⟨rfl, rfl⟩; rw [HQ.out]))
    all_goals have hh := h0.out
    all_goals try (exfalso; omega)
    go_ret
    exact ⟨ret_bool (beq_iff_eq.2 (by rw [wrap_q, Int.tmod_eq_emod_of_nonneg hr0]; exact HT.out)), HB.out⟩
end Go.Proofs.Ytolfafmpemmfiaa
