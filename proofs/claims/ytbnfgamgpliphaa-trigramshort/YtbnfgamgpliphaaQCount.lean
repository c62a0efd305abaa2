/-
  What Count and Within return, and the reference's.
-/
import Derived.Test.YtbnfgamgpliphaaQMem
namespace Go.Proofs.Ytbnfgamgpliphaa
open Go.RowKit

theorem index25 (F : F256) (k : Nat) (hk : k < 4) (w : World) : (Instr.index 25 (B4 F) (.int .i64 k)).run Try.prog w = .ok (.int .u64 (u (fw F k))) w := by
  have a3' := Try.isAgg23
  have z3 := Try.sizeOf23
  have u22 := Try.underlying25
  rcases (show k = 0 ∨ k = 1 ∨ k = 2 ∨ k = 3 by omega) with rfl | rfl | rfl | rfl <;> simp [Instr.index, go_sem]
set_option maxHeartbeats 400000 in
theorem count_any (F : F256) (w : World) : Calls Try.prog 17 #[B4 F] w fun e w' => e = .returned (.int .i64 (cnt F : Nat)) ∧ Below w.heap.size w w' := by
  have HI := hid (index25 F)
  have HB : Hid (Below w.heap.size w (w.alloc (.cells (c4 F) 25 (0, 0)))) := (Below.refl _ _).alloc (Nat.le_refl _) _
  go_enter Try.func17, Try.ntmps17
  go_wp2_with fail
  generalize w.alloc _ = W at *
  go_loopw [3, 7] (fun n i wr => ∃ j : Nat, j ≤ 4 ∧ i = .int .i64 j ∧ n = .int .i64 (cntTo F (64 * j) : Nat) ∧ wr = W) (fun _ i _ => 4 - (intOf i).toNat)
  case atStart => exact ⟨0, by omega, rfl, rfl, rfl⟩
  case round =>
    obtain ⟨j, hj, rfl, rfl, rfl⟩ := hrel
    have hc := cntTo_le F (64 * j)
    by_cases hlt : j < 4
    · have hi := HI.out j hlt
      have HW := hid (cnt_word F j 64 (by omega))
      have HP := hid (popN_le 64 (fw F j).toNat)
      generalize fw F j = x at *
      generalize cntTo F (64 * j) = y at *
      go_wp2_with (go_at_call 21; refine (ones_any x _).mono ?_; rintro e w' ⟨rfl, rfl⟩; have hp := HP.out; generalize popN 64 x.toNat = z at *)
      go_roundw
      case rel => exact ⟨j + 1, by omega, by go_num, by rw [show 64 * (j + 1) = 64 * j + 64 by omega, HW.out]; rfl, by trivial⟩
      case measure => simp [intOf]; omega
    · have h4 : j = 4 := by omega
      subst h4
      go_wp2
      go_ret
      exact ⟨rfl, HB.out⟩
end Go.Proofs.Ytbnfgamgpliphaa
