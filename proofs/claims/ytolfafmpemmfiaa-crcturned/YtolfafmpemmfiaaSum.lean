/-
  What crc.Sum, crc.Slot, the reference's and the statements' own shown return.
-/
import Derived.Test.YtolfafmpemmfiaaMore
namespace Go.Proofs.Ytolfafmpemmfiaa
open Go.RowKit

def sum (xs : List UInt8) : W32 := more 0 xs
theorem more0_any {v : Value} {xs : List UInt8} {w : World} (hv : BAt w v xs) : Calls Try.prog 12 #[.int .u32 0, v] w fun e w' => e = .returned (.int .u32 (u (sum xs))) ∧ w' = w := more_any (s := 0) hv
theorem rmore0_any {v : Value} {xs : List UInt8} {w : World} (hv : BAt w v xs) : Calls Try.prog 13 #[.int .u32 0, v] w fun e w' => e = .returned (.int .u32 (u (sum xs))) ∧ w' = w := rmore_any (s := 0) hv
theorem sum_any {v : Value} {xs : List UInt8} {w : World} (hv : BAt w v xs) : Calls Try.prog 8 #[v] w fun e w' => e = .returned (.int .u32 (u (sum xs))) ∧ w' = w := by
  have HV := hid hv
  obtain ⟨p, cap, rfl, -, -, -, -⟩ := hv
  generalize hr : sum xs = r
  have HR := hid hr
  clear hr
  go_enter Try.func8, Try.ntmps8
  go_wp2_with (go_at_call 12; refine (more0_any HV.out).mono ?_; rintro e w' ⟨rfl, rfl⟩; rw [HR.out])
  go_ret
  exact ⟨rfl, rfl⟩
theorem rsum_any {v : Value} {xs : List UInt8} {w : World} (hv : BAt w v xs) : Calls Try.prog 9 #[v] w fun e w' => e = .returned (.int .u32 (u (sum xs))) ∧ w' = w := by
  have HV := hid hv
  obtain ⟨p, cap, rfl, -, -, -, -⟩ := hv
  generalize hr : sum xs = r
  have HR := hid hr
  clear hr
  go_enter Try.func9, Try.ntmps9
  go_wp2_with (go_at_call 13; refine (rmore0_any HV.out).mono ?_; rintro e w' ⟨rfl, rfl⟩; rw [HR.out])
  go_ret
  exact ⟨rfl, rfl⟩
def slot (xs : List UInt8) (n : Int) : Int := if n < 1 then 0 else u (sum xs) % n
theorem slot_less {xs : List UInt8} {n : Int} (h : n < 1) : slot xs n = 0 := by unfold slot; rw [if_pos h]
theorem slot_is {xs : List UInt8} {n : Int} (h : ¬ n < 1) : slot xs n = u (sum xs) % n := by unfold slot; rw [if_neg h]
theorem slot_range {xs : List UInt8} {n : Int} (h : ¬ n < 1) : 0 ≤ slot xs n ∧ slot xs n < n := by
  rw [slot_is h]
  exact ⟨Int.emod_nonneg _ (by omega), Int.emod_lt_of_pos _ (by omega)⟩
theorem ret_i {a b : Int} (h : a = b) : Ending.returned (.int .i64 a) = .returned (.int .i64 b) := by rw [h]
theorem slot_any {v : Value} {xs : List UInt8} {n : Int} {w : World} (hv : BAt w v xs) (hn : n ≤ 9223372036854775807) : Calls Try.prog 10 #[v, .int .i64 n] w fun e w' => e = .returned (.int .i64 (slot xs n)) ∧ w' = w := by
  have HV := hid hv
  obtain ⟨p, cap, rfl, -, -, -, -⟩ := hv
  by_cases h : n < 1
  · rw [slot_less h]
    go_enter Try.func10, Try.ntmps10
    go_wp2
    go_ret
    exact ⟨rfl, rfl⟩
  · rw [slot_is h]
    have hr := u_range (sum xs)
    have htm : (u (sum xs)).tmod n = u (sum xs) % n := Int.tmod_eq_emod_of_nonneg hr.1
    have h0 := hr.1
    have h1 := hr.2
    clear hr
    generalize hs : sum xs = r at *
    have HS := hid hs
    clear hs
    go_enter Try.func10, Try.ntmps10
    go_wp2_with (go_at_call 8; refine (sum_any HV.out).mono ?_; rintro e w' ⟨rfl, rfl⟩; rw [HS.out])
    go_ret
    exact ⟨rfl, rfl⟩
theorem rslot_any {v : Value} {xs : List UInt8} {n : Int} {w : World} (hv : BAt w v xs) (hn : n ≤ 9223372036854775807) : Calls Try.prog 11 #[v, .int .i64 n] w fun e w' => e = .returned (.int .i64 (slot xs n)) ∧ w' = w := by
  have HV := hid hv
  obtain ⟨p, cap, rfl, -, -, -, -⟩ := hv
  by_cases h : n < 1
  · rw [slot_less h]
    go_enter Try.func11, Try.ntmps11
    go_wp2
    go_ret
    exact ⟨rfl, rfl⟩
  · rw [slot_is h]
    have hr := u_range (sum xs)
    have htm : (u (sum xs)).tmod n = u (sum xs) % n := Int.tmod_eq_emod_of_nonneg hr.1
    have h0 := hr.1
    have h1 := hr.2
    clear hr
    generalize hs : sum xs = r at *
    have HS := hid hs
    clear hs
    go_enter Try.func11, Try.ntmps11
    go_wp2_with (go_at_call 9; refine (rsum_any HV.out).mono ?_; rintro e w' ⟨rfl, rfl⟩; rw [HS.out])
    go_ret
    exact ⟨rfl, rfl⟩

def b9 : List UInt8 := [49, 50, 51, 52, 53, 54, 55, 56, 57]
theorem sum_nil : u (sum []) = 0 := by kernel_rfl
theorem sum_b9 : u (sum b9) = 3808858755 := by kernel_rfl
theorem slot_b9 : slot b9 10 = 5 := by rw [slot_is (by decide), sum_b9]; rfl
theorem bat_nil (w : World) : BAt w (.slice none 0 0) [] := ⟨none, 0, rfl, by simp, fun _ => rfl, by simp [maxLen], fun h => absurd rfl h⟩
def cells9 : Array Value := #[.int .u8 49, .int .u8 50, .int .u8 51, .int .u8 52, .int .u8 53, .int .u8 54, .int .u8 55, .int .u8 56, .int .u8 57]
theorem bat_b9 (w : World) : BAt (w.alloc (.cells #[.int .u8 49, .int .u8 50, .int .u8 51, .int .u8 52, .int .u8 53, .int .u8 54, .int .u8 55, .int .u8 56, .int .u8 57] 5 (9, 10))) (.slice (some ⟨w.heap.size, 0, none⟩) 9 9) b9 := by
  refine ⟨_, 9, rfl, by decide, (fun h => by cases h), by unfold maxLen; decide, fun _ => ⟨_, rfl, fun j x hj => ?_⟩⟩
  have hlt : j < 9 := (List.getElem?_eq_some_iff.1 hj).1
  rw [Addr.add_lit, Nat.zero_add, World.cell?_alloc_mark]
  rcases (show j = 0 ∨ j = 1 ∨ j = 2 ∨ j = 3 ∨ j = 4 ∨ j = 5 ∨ j = 6 ∨ j = 7 ∨ j = 8 by omega) with rfl | rfl | rfl | rfl | rfl | rfl | rfl | rfl | rfl <;> (simp [b9] at hj; subst hj; rfl)
theorem callsTo {f : Nat} {args : Array Value} {w : World} {k : IntKind} {a b : Int} (h : Calls Try.prog f args w fun e w' => e = .returned (.int k a) ∧ w' = w) (e : a = b) : Calls Try.prog f args w fun e w' => e = .returned (.int k b) ∧ w' = w := by rw [← e]; exact h
theorem sum0 (w : World) : Calls Try.prog 8 #[.slice none 0 0] w fun e w' => e = .returned (.int .u32 0) ∧ w' = w := callsTo (sum_any (bat_nil w)) sum_nil
theorem sum9 {v : Value} {w : World} (h : BAt w v b9) : Calls Try.prog 8 #[v] w fun e w' => e = .returned (.int .u32 3808858755) ∧ w' = w := callsTo (sum_any h) sum_b9
end Go.Proofs.Ytolfafmpemmfiaa
