/-
  What the statements' own shown returns.
-/
import Derived.Test.YtolfafmpemmfiaaSum
namespace Go.Proofs.Ytolfafmpemmfiaa
open Go.RowKit

def slot9 (n : Int) : Int := slot b9 n
theorem slot9_0 : slot9 0 = 0 := slot_less (by decide)
theorem slot9_10 : slot9 10 = 5 := slot_b9
theorem slot9_any {v : Value} {w : World} {n : Int} (h : BAt w v b9) (hn : n ≤ 9223372036854775807) : Calls Try.prog 10 #[v, .int .i64 n] w fun e w' => e = .returned (.int .i64 (slot9 n)) ∧ w' = w := slot_any h hn
set_option maxHeartbeats 400000 in
theorem shown_any {w : World} : Calls Try.prog 7 #[] w fun e w' => e = .returned (.bool true) ∧ Below w.heap.size w w' := by
  have kc := fun (w : World) (C : Array Value) (n c : Nat) => Lib.run_convert_bytes_const (P := Try.prog) w 22 5 C n c Try.underlying22 Try.underlying5
  have HB := hid (bat_b9 w)
  have HL := hid ((Below.refl _ w).alloc (Nat.le_refl _) (.cells #[.int .u8 49, .int .u8 50, .int .u8 51, .int .u8 52, .int .u8 53, .int .u8 54, .int .u8 55, .int .u8 56, .int .u8 57] 5 (9, 10)))
  go_enter Try.func7, Try.ntmps7
  go_wp2_with (first
    | (go_at_call 8; refine (sum0 _).mono ?_; rintro e w' ⟨rfl, rfl⟩; generalize hW : World.alloc w _ = W at *; clear hW kc)
    | (go_at_call 8; refine (sum9 HB.out).mono ?_; rintro e w' ⟨rfl, rfl⟩))
  have h0 := slot9_0
  have h10 := slot9_10
  go_wp2_with (go_at_call 10; refine (slot9_any HB.out (by decide)).mono ?_; rintro e w' ⟨rfl, rfl⟩)
  go_ret
  exact ⟨rfl, HL.out⟩
end Go.Proofs.Ytolfafmpemmfiaa
