/-
  What the reference's Count and Within return, and the program's Within.
-/
import Derived.Test.YtbnfgamgpliphaaQCount
namespace Go.Proofs.Ytbnfgamgpliphaa
open Go.RowKit

theorem has_is {F : F256} {n : Nat} {b : Bool} (hn : n < 256) (hb : F.getLsbD n = b) (w : World) : Calls Try.prog 19 #[B4 F, .int .i64 n] w fun e w' => e = .returned (.bool b) ∧ Below w.heap.size w w' := by
  rw [← hb]; exact has_any F n hn w
set_option maxRecDepth 100000 in
set_option maxHeartbeats 1000000 in
theorem rcount_any (F : F256) (w : World) : Calls Try.prog 18 #[B4 F] w fun e w' => e = .returned (.int .i64 (cnt F : Nat)) ∧ Below w.heap.size w w' := by
  have HK : Hid (Fb (w.alloc (.cells (c4 F) 25 (0, 0))) w.heap.size F) := Fb.made w F
  have HB : Hid (Below w.heap.size w (w.alloc (.cells (c4 F) 25 (0, 0)))) := (Below.refl _ _).alloc (Nat.le_refl _) _
  go_enter Try.func18, Try.ntmps18
  go_wp2_with fail
  generalize w.alloc _ = W at *
  go_loopw [3, 4] (fun n i wr => ∃ j : Nat, j ≤ 256 ∧ i = .int .i64 j ∧ n = .int .i64 (cntTo F j : Nat) ∧ Hid (Fb wr w.heap.size F) ∧ Hid (Below w.heap.size w wr)) (fun _ i _ => 256 - (intOf i).toNat)
  case atStart => exact ⟨0, by omega, rfl, rfl, HK.out, HB.out⟩
  case round =>
    clear HK HB
    obtain ⟨j, hj, rfl, rfl, K0, HB⟩ := hrel
    have hc := cntTo_le F j
    have c0 := K0.out.cells
    have l0 := K0.out.lt
    by_cases hlt : j < 256
    · have HW := hid (cntTo_succ F j)
      have HL := hid hlt
      have hI : (j : Int) < 256 := by omega
      have hcI : (cntTo F j : Int) ≤ 256 := by omega
      clear hlt hj hc
      generalize cntTo F j = y at *
      cases hb : F.getLsbD j with
      | true =>
        rw [hb] at HW
        have HX := hid hb
        clear hb
        go_wp2_with (go_at_call 19; refine (has_is HL.out HX.out _).mono ?_; rintro e w' ⟨rfl, hb⟩; replace K0 := hid (K0.out.on hb); replace HB := hid (below_on HB.out hb); clear hb c0 l0)
        go_roundw
        case rel => exact ⟨j + 1, HL.out, by go_num, by rw [HW.out]; rfl, K0.out, HB.out⟩
        case measure => simp [intOf]; omega
      | false =>
        rw [hb] at HW
        have HX := hid hb
        clear hb
        go_wp2_with (go_at_call 19; refine (has_is HL.out HX.out _).mono ?_; rintro e w' ⟨rfl, hb⟩; replace K0 := hid (K0.out.on hb); replace HB := hid (below_on HB.out hb); clear hb c0 l0)
        go_roundw
        case rel => exact ⟨j + 1, HL.out, by go_num, by rw [HW.out]; rfl, K0.out, HB.out⟩
        case measure => simp [intOf]; omega
    · have h4 : j = 256 := by omega
      subst h4
      go_wp2
      go_ret
      exact ⟨rfl, HB.out⟩
set_option maxHeartbeats 400000 in
theorem within_any (F G : F256) (w : World) : Calls Try.prog 15 #[B4 F, B4 G] w fun e w' => e = .returned (.bool (wit F G)) ∧ Below w.heap.size w w' := by
  have he := @eql25
  have HW : Hid (eqF (F ||| G) G = wit F G) := rfl
  go_enter Try.func15, Try.ntmps15
  go_wp2_with fail
  go_region_with (first | (go_at_call 13; refine (join_any F G _).mono ?_; rintro e w' ⟨rfl, hb⟩; have hc := fun b o (h : b < _) => hb.cell (p := ⟨b, o, none⟩) h; generalize F ||| G = J at *))
  all_goals
    go_wp2
    go_ret
    exact ⟨ret_bool HW.out, (((Below.refl _ _).alloc (Nat.le_refl _) _).alloc (by go_size) _).drew.trans (hb.mono (by go_size))⟩
end Go.Proofs.Ytbnfgamgpliphaa
