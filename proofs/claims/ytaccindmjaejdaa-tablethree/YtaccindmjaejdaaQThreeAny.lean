/-
  catchmentlaw02.TableThree, for every table and any two numbers.
-/
import Derived.Test.YtaccindmjaejdaaQThreeWalk
import Derived.WideKeyPair
namespace Go.Proofs.Ytaccindmjaejdaa
open Go.RowKit Go.Sort Go.Shelf

theorem arr2 : Go.WideMaps.ArrKey Try.prog 37 3 2 := ⟨by kernel_rfl, by kernel_rfl, by kernel_rfl, by kernel_rfl⟩
set_option maxRecDepth 100000 in
set_option maxHeartbeats 1000000 in
theorem tthree_any {v : Value} {cs : List Cl} {rs : List Rw} {c0 c1 : Int} {w : World} (hT : TabAt w v cs rs) (hn : -9223372036854775808 ≤ c0 ∧ c0 ≤ 9223372036854775807) (hn' : -9223372036854775808 ≤ c1 ∧ c1 ≤ 9223372036854775807) :
    Calls Try.prog 4 #[v, .agg #[.int .i64 c0, .int .i64 c1]] w fun e w' => e = .returned (.bool true) ∧ Below w.heap.size w w' := by
  obtain ⟨q, nc, capc, p, n, cap, rfl, hcap, hcut⟩ := hT.cuts
  generalize rs.take 200 = rs' at hcut
  clear hT
  by_cases hchk : checkV cs rs' = 0
  · have hf := hcut
    obtain ⟨c, r, he, hc, hs, hr, hh⟩ := hf
    simp only [Value.agg.injEq, Array.mk.injEq, List.cons.injEq, and_true] at he
    obtain ⟨rfl, rfl⟩ := he
    obtain ⟨q', capc', hq, -⟩ := hc
    obtain ⟨p', cap', hp, -⟩ := hr
    injection hq with _ e2 _
    injection hp with _ e5 _
    have ht0 := turnA_nn c0
    have ht1 := turnA_nn c1
    have m0 := Int.emod_nonneg (turnA c0) (b := ((min n 200 : Nat) : Int) + 1) (by omega)
    have m1 := Int.emod_lt_of_pos (turnA c0) (b := ((min n 200 : Nat) : Int) + 1) (by omega)
    have m2 := Int.emod_nonneg (turnA c1) (b := ((min n 200 : Nat) : Int) + 1) (by omega)
    have m3 := Int.emod_lt_of_pos (turnA c1) (b := ((min n 200 : Nat) : Int) + 1) (by omega)
    exact tthree_ok (x1 := (turnA c0 % (((min n 200 : Nat) : Int) + 1)).toNat) (x2 := (turnA c1 % (((min n 200 : Nat) : Int) + 1)).toNat) hcut rfl hcap hchk e2.symm (by rw [← hh.1]; exact e5.symm) (by omega) hn.1 hn.2 hn'.1 hn'.2 ht0 ht1 rfl rfl (by omega) (by omega) (show _ ≤ _ by omega) (show _ ≤ _ by omega)
  · have HT := hid hcut
    have HCAP := hid hcap
    have HB := hid (((Below.refl w.heap.size w).alloc (Nat.le_refl _) (.cells #[.slice q nc capc, .slice p n cap] 25)).alloc (by simp) (.cells #[.int .i64 c0, .int .i64 c1] 37))
    have KB := hid (block_on (alloc_block w (.cells #[.slice q nc capc, .slice p n cap] 25)) ((Below.refl _ _).alloc (Nat.le_refl _) (.cells #[.int .i64 c0, .int .i64 c1] 37)))
    generalize hz : checkV cs rs' = z at *
    have HZ := hid hz
    have hne : (z != 0) = true := by simpa using hchk
    clear hz hchk hcut hcap
    generalize hm : min n 200 = m at *
    have HMn := hid hm
    clear hm
    go_enter Try.func4, Try.ntmps4
    go_wp2_with (first
      | (go_at_call 13; refine shown_any.mono ?_; rintro e w1 ⟨rfl, hb1⟩; have HB1 := hid (below_on HB.out hb1); have KB1 := hid (block_on KB.out hb1); have kb1 := block_cell KB1.out; clear hb1)
      | (go_at_call 14; refine (cut_val HCAP.out).mono ?_; rintro e w2 ⟨rfl, hb2⟩; rw [HMn.out]; have HB2 := hid (below_on HB1.out hb2); have KB2 := hid (block_on KB1.out hb2); have kb2 := block_cell KB2.out; have zb2 := frozen_no KB2.out; clear hb2 kb1)
      | (go_at_call 15; have hst := storedT (c' := .slice q nc capc) (r' := .slice p m cap) KB2.out HB2.out; generalize World.setCell _ _ _ = W at *; obtain ⟨hkw, hbw⟩ := hst; refine (rcheck_is (HT.out.on hbw) HZ.out).mono ?_; rintro e w4 ⟨rfl, hb4⟩; have HB4 := hid (below_on hbw hb4); clear hb4 kb2 zb2 hkw hbw))
    go_ret
    exact ⟨rfl, HB4.out⟩
end Go.Proofs.Ytaccindmjaejdaa
