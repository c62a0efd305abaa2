/-
  What span returns.
-/
import Derived.Test.YtomnjckbgmbgmaaGreatDoorQBase
namespace Go.Proofs.YtomnjckbgmbgmaaGreatDoor
open Go.RowKit

set_option maxHeartbeats 400000 in
theorem span17 (l : List UInt8) (hl : (l.length : Int) ≤ 9223372036854775806) (w : World) : Calls Tryz.prog 63 #[.string (St l), .func (.func 64) #[] #[]] w fun e w' => e = .returned (.int .i64 (spanN isBl l : Nat)) ∧ w' = w := by
  have hsz := St_size l
  go_enter Tryz.func63, Tryz.ntmps63
  go_wp2_with fail
  go_loopw [8] (fun i wr => ∃ k : Nat, (k : Int) ≤ l.length ∧ i = .int .i64 k ∧ Hid (∀ i (h : i < l.length), i < k → isBl l[i] = true) ∧ w = wr) (fun i _ => l.length - (intOf i).toNat)
  case atStart => exact ⟨0, by omega, rfl, fun i h hi => by omega, rfl⟩
  case round =>
    obtain ⟨k, hk, rfl, HA, hw⟩ := hrel
    subst hw
    by_cases hlt : k < l.length
    · have hi := idx l k hlt
      have hI : (k : Int) < l.length := by omega
      cases hc : isBl l[k] with
      | true =>
        go_wp2_with (go_at_call 64; refine (isBl_any _ _).mono ?_; rintro e w2 ⟨rfl, rfl⟩; rw [hc])
        go_roundw
        case rel =>
          refine ⟨k + 1, by omega, by go_num, ?_, (by first | rfl | trivial)⟩
          intro i h hik
          rcases Nat.lt_or_ge i k with h1 | h1
          · exact HA.out i h h1
          · obtain rfl : i = k := by omega
            exact hc
        case measure => simp [intOf]; omega
      | false =>
        go_wp2_with (go_at_call 64; refine (isBl_any _ _).mono ?_; rintro e w2 ⟨rfl, rfl⟩; rw [hc])
        go_ret
        exact ⟨by rw [spanN_is isBl l k (by omega) HA.out (.inr ⟨hlt, hc⟩)]; rfl, rfl⟩
    · go_wp2_with fail
      go_ret
      exact ⟨by rw [spanN_is isBl l k (by omega) HA.out (.inl (by omega)), show k = l.length by omega]; rfl, rfl⟩
set_option maxHeartbeats 400000 in
theorem span23 (l : List UInt8) (hl : (l.length : Int) ≤ 9223372036854775806) (w : World) : Calls Tryz.prog 63 #[.string (St l), .func (.func 101) #[] #[]] w fun e w' => e = .returned (.int .i64 (spanN isDg l : Nat)) ∧ w' = w := by
  have hsz := St_size l
  go_enter Tryz.func63, Tryz.ntmps63
  go_wp2_with fail
  go_loopw [8] (fun i wr => ∃ k : Nat, (k : Int) ≤ l.length ∧ i = .int .i64 k ∧ Hid (∀ i (h : i < l.length), i < k → isDg l[i] = true) ∧ w = wr) (fun i _ => l.length - (intOf i).toNat)
  case atStart => exact ⟨0, by omega, rfl, fun i h hi => by omega, rfl⟩
  case round =>
    obtain ⟨k, hk, rfl, HA, hw⟩ := hrel
    subst hw
    by_cases hlt : k < l.length
    · have hi := idx l k hlt
      have hI : (k : Int) < l.length := by omega
      cases hc : isDg l[k] with
      | true =>
        go_wp2_with (go_at_call 101; refine (isDg_any _ _).mono ?_; rintro e w2 ⟨rfl, rfl⟩; rw [hc])
        go_roundw
        case rel =>
          refine ⟨k + 1, by omega, by go_num, ?_, (by first | rfl | trivial)⟩
          intro i h hik
          rcases Nat.lt_or_ge i k with h1 | h1
          · exact HA.out i h h1
          · obtain rfl : i = k := by omega
            exact hc
        case measure => simp [intOf]; omega
      | false =>
        go_wp2_with (go_at_call 101; refine (isDg_any _ _).mono ?_; rintro e w2 ⟨rfl, rfl⟩; rw [hc])
        go_ret
        exact ⟨by rw [spanN_is isDg l k (by omega) HA.out (.inr ⟨hlt, hc⟩)]; rfl, rfl⟩
    · go_wp2_with fail
      go_ret
      exact ⟨by rw [spanN_is isDg l k (by omega) HA.out (.inl (by omega)), show k = l.length by omega]; rfl, rfl⟩
set_option maxHeartbeats 400000 in
theorem span33 (l : List UInt8) (hl : (l.length : Int) ≤ 9223372036854775806) (w : World) : Calls Tryz.prog 63 #[.string (St l), .func (.func 124) #[] #[]] w fun e w' => e = .returned (.int .i64 (spanN isWd l : Nat)) ∧ w' = w := by
  have hsz := St_size l
  go_enter Tryz.func63, Tryz.ntmps63
  go_wp2_with fail
  go_loopw [8] (fun i wr => ∃ k : Nat, (k : Int) ≤ l.length ∧ i = .int .i64 k ∧ Hid (∀ i (h : i < l.length), i < k → isWd l[i] = true) ∧ w = wr) (fun i _ => l.length - (intOf i).toNat)
  case atStart => exact ⟨0, by omega, rfl, fun i h hi => by omega, rfl⟩
  case round =>
    obtain ⟨k, hk, rfl, HA, hw⟩ := hrel
    subst hw
    by_cases hlt : k < l.length
    · have hi := idx l k hlt
      have hI : (k : Int) < l.length := by omega
      cases hc : isWd l[k] with
      | true =>
        go_wp2_with (go_at_call 124; refine (isWd_any _ _).mono ?_; rintro e w2 ⟨rfl, rfl⟩; rw [hc])
        go_roundw
        case rel =>
          refine ⟨k + 1, by omega, by go_num, ?_, (by first | rfl | trivial)⟩
          intro i h hik
          rcases Nat.lt_or_ge i k with h1 | h1
          · exact HA.out i h h1
          · obtain rfl : i = k := by omega
            exact hc
        case measure => simp [intOf]; omega
      | false =>
        go_wp2_with (go_at_call 124; refine (isWd_any _ _).mono ?_; rintro e w2 ⟨rfl, rfl⟩; rw [hc])
        go_ret
        exact ⟨by rw [spanN_is isWd l k (by omega) HA.out (.inr ⟨hlt, hc⟩)]; rfl, rfl⟩
    · go_wp2_with fail
      go_ret
      exact ⟨by rw [spanN_is isWd l k (by omega) HA.out (.inl (by omega)), show k = l.length by omega]; rfl, rfl⟩
end Go.Proofs.YtomnjckbgmbgmaaGreatDoor
