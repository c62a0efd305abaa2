/-
  catchmentlaw01.ValueBuckets returns true for every two numbers, and turns nothing older in memory. Condition: the table of the powers of ten of Go's strconv is as it is laid.
-/
import Derived.Test.YtjplnelffiegmaaDoorShown
namespace Go.Proofs.YtjplnelffiegmaaDoor
open Go.RowKit Go.Joins Go.Sort

theorem bk_lt (n : Int) : bk n < 8 := by
  unfold bk
  repeat' split
  all_goals omega
theorem bk_mono {n m : Int} (h : n ≤ m) : bk n ≤ bk m := by
  unfold bk
  repeat' split
  all_goals omega
theorem hot_cell {W : World} {b : Nat} {n : Int} (h : W.heap[b]? = some (.cells (cellsOf 4 0 ⟨#[]⟩ (hot n 0) (hot n 1) (hot n 2) (hot n 3) (hot n 4) (hot n 5) (hot n 6) (hot n 7)) 24 (0, 0))) (k : Nat) (hk : k < 8) : W.cell? ⟨b, 3 + k, none⟩ = some (.int .i64 (hot n k)) := by
  rw [block_cell h]
  rcases lt8 hk with rfl | rfl | rfl | rfl | rfl | rfl | rfl | rfl <;> rfl
theorem hot_yes {n : Int} {k : Nat} (h : bk n = k) : hot n k = 1 := by simp [hot, h]
theorem hot_no {n : Int} {k : Nat} (h : ¬ bk n = k) : hot n k = 0 := by simp [hot]; omega
/- What stands in the three numbers behind k rounds. -/
def upTo (b k : Nat) (v : Int) : Int := if b < k then v else 0
theorem upTo_hit {b k : Nat} {v : Int} (h : b = k) : upTo b (k + 1) v = v := by simp [upTo, h]
theorem upTo_hit0 {b k : Nat} {v : Int} (h : b = k) : upTo b k v = 0 := by simp [upTo, h]
theorem upTo_miss {b k : Nat} {v : Int} (h : ¬ b = k) : upTo b (k + 1) v = upTo b k v := by
  unfold upTo
  by_cases h1 : b < k
  · rw [if_pos h1, if_pos (by omega)]
  · rw [if_neg h1, if_neg (by omega)]
theorem upTo_bd (b k : Nat) : 0 ≤ upTo b k 1 ∧ upTo b k 1 ≤ 1 := by unfold upTo; split <;> omega
theorem upTo_end {b : Nat} {v : Int} (h : b < 8) : upTo b 8 v = v := by simp [upTo, h]
theorem int_eq {a b : Int} (h : a = b) : Value.int .i64 a = .int .i64 b := by rw [h]

set_option maxHeartbeats 1000000 in
set_option maxRecDepth 100000 in
theorem valueBuckets_any {n m : Int} {w : World} (ht : Tab w) :
    Calls Tryd.prog 8 #[.int .i64 n, .int .i64 m] w fun e w' => e = .returned (.bool true) ∧ Below w.heap.size w w' := by
  have HT := hid ht
  clear ht
  go_enter Tryd.func8, Tryd.ntmps8
  go_wp2_with fail
  refine (shown_any HT.out).mono ?_
  rintro e w1 ⟨rfl, hb1⟩
  have HB1 := hid hb1
  clear hb1
  go_wp2_with fail
  refine bucket_any.mono ?_
  rintro e w2 ⟨rfl, hb2⟩
  have HB2 := hid (below_on (below_on HB1.out hb2) ((Below.refl _ _).alloc (Nat.le_refl _) (.cells (cellsOf 4 0 ⟨#[]⟩ (hot n 0) (hot n 1) (hot n 2) (hot n 3) (hot n 4) (hot n 5) (hot n 6) (hot n 7)) 24 (0, 0))))
  have KA := hid (alloc_block w2 (.cells (cellsOf 4 0 ⟨#[]⟩ (hot n 0) (hot n 1) (hot n 2) (hot n 3) (hot n 4) (hot n 5) (hot n 6) (hot n 7)) 24 (0, 0)))
  clear hb2
  go_wp2_with fail
  generalize (w2.alloc (.cells (cellsOf 4 0 ⟨#[]⟩ (hot n 0) (hot n 1) (hot n 2) (hot n 3) (hot n 4) (hot n 5) (hot n 6) (hot n 7)) 24 (0, 0))) = W2 at *
  generalize w2.heap.size = bA at *
  refine bucket_any.mono ?_
  rintro e w3 ⟨rfl, hb3⟩
  have HB3 := hid (below_on (below_on HB2.out hb3) ((Below.refl _ _).alloc (Nat.le_refl _) (.cells (cellsOf 4 0 ⟨#[]⟩ (hot m 0) (hot m 1) (hot m 2) (hot m 3) (hot m 4) (hot m 5) (hot m 6) (hot m 7)) 24 (0, 0))))
  have KA3 := hid (block_on (block_on KA.out hb3) ((Below.refl _ _).alloc (Nat.le_refl _) (.cells (cellsOf 4 0 ⟨#[]⟩ (hot m 0) (hot m 1) (hot m 2) (hot m 3) (hot m 4) (hot m 5) (hot m 6) (hot m 7)) 24 (0, 0))))
  have KB3 := hid (alloc_block w3 (.cells (cellsOf 4 0 ⟨#[]⟩ (hot m 0) (hot m 1) (hot m 2) (hot m 3) (hot m 4) (hot m 5) (hot m 6) (hot m 7)) 24 (0, 0)))
  clear hb3 HB1 HB2 KA
  go_wp2_with fail
  generalize (w3.alloc (.cells (cellsOf 4 0 ⟨#[]⟩ (hot m 0) (hot m 1) (hot m 2) (hot m 3) (hot m 4) (hot m 5) (hot m 6) (hot m 7)) 24 (0, 0))) = W at *
  generalize w3.heap.size = bB at *
  go_loop [8, 9, 10, 11] (fun p o t i => ∃ k : Nat, k ≤ 8 ∧ i = .int .i64 k ∧ p = .int .i64 (upTo (bk n) k (bk n)) ∧ o = .int .i64 (upTo (bk m) k (bk m)) ∧ t = .int .i64 (upTo (bk n) k 1)) (fun _ _ _ i => 8 - (intOf i).toNat)
  case atStart => exact ⟨0, by omega, rfl, rfl, rfl, rfl⟩
  case round =>
    obtain ⟨k, hk, rfl, rfl, rfl, rfl⟩ := hrel
    by_cases hlt : k < 8
    · have cA := hot_cell KA3.out k hlt
      have cB := hot_cell KB3.out k hlt
      obtain ⟨bd1, bd2⟩ := upTo_bd (bk n) k
      by_cases h1 : bk n = k
      · have HA := hid h1
        rw [hot_yes h1] at cA
        have H0 := hid (upTo_hit0 (v := 1) h1)
        clear h1
        by_cases h2 : bk m = k
        · have HB := hid h2
          rw [hot_yes h2] at cB
          clear h2
          go_wp2
          go_round
          case rel => exact ⟨k + 1, by omega, by go_num, int_eq (by rw [upTo_hit HA.out, HA.out]), int_eq (by rw [upTo_hit HB.out, HB.out]), int_eq (by rw [upTo_hit HA.out, H0.out]; rfl)⟩
          case measure => simp [intOf]; omega
        · have HB := hid h2
          rw [hot_no h2] at cB
          clear h2
          go_wp2
          go_round
          case rel => exact ⟨k + 1, by omega, by go_num, int_eq (by rw [upTo_hit HA.out, HA.out]), int_eq (upTo_miss HB.out).symm, int_eq (by rw [upTo_hit HA.out, H0.out]; rfl)⟩
          case measure => simp [intOf]; omega
      · have HA := hid h1
        rw [hot_no h1] at cA
        clear h1
        by_cases h2 : bk m = k
        · have HB := hid h2
          rw [hot_yes h2] at cB
          clear h2
          go_wp2
          go_round
          case rel => exact ⟨k + 1, by omega, by go_num, int_eq (upTo_miss HA.out).symm, int_eq (by rw [upTo_hit HB.out, HB.out]), int_eq (by rw [upTo_miss HA.out]; try omega)⟩
          case measure => simp [intOf]; omega
        · have HB := hid h2
          rw [hot_no h2] at cB
          clear h2
          go_wp2
          go_round
          case rel => exact ⟨k + 1, by omega, by go_num, int_eq (upTo_miss HA.out).symm, int_eq (upTo_miss HB.out).symm, int_eq (by rw [upTo_miss HA.out]; try omega)⟩
          case measure => simp [intOf]; omega
    · have h8 : k = 8 := by omega
      subst h8
      rw [upTo_end (bk_lt n), upTo_end (bk_lt n), upTo_end (bk_lt m)]
      have qA : ∀ d os o, (grow (redrawn W d) os).cell? ⟨bA, o, none⟩ = (cellsOf 4 0 ⟨#[]⟩ (hot n 0) (hot n 1) (hot n 2) (hot n 3) (hot n 4) (hot n 5) (hot n 6) (hot n 7))[o]? := fun d os o => block_cell (block_on KA3.out (below_regrown W d os)) o
      have e1 := @eql24
      have e2 : eqV 4 0 ⟨#[]⟩ (hot n 0) (hot n 1) (hot n 2) (hot n 3) (hot n 4) (hot n 5) (hot n 6) (hot n 7) 4 0 ⟨#[]⟩ (hot n 0) (hot n 1) (hot n 2) (hot n 3) (hot n 4) (hot n 5) (hot n 6) (hot n 7) = true := by simp [eqV, eqH]
      by_cases hnm : m < n
      · go_wp2_with fail
        refine wp_region_quiet_below (by kernel_rfl) (by kernel_rfl) ?_
        repeat (go_big_quiet_step (first | (go_at_call 22; exact Calls.regrown_of rbucket_any)))
        refine wpQuiet_nil ?_
        intro _ hw'
        obtain ⟨⟨dq, osq⟩, hw''⟩ := hw'
        subst hw''
        go_wp2
        go_ret
        exact ⟨rfl, below_on HB3.out (below_regrown W dq osq)⟩
      · have hle : (bk n : Int) ≤ (bk m : Int) := by have := bk_mono (show n ≤ m by omega); omega
        have hd : decide (m < n) = false := by simpa using hnm
        go_wp2_with fail
        refine wp_region_quiet_below (by kernel_rfl) (by kernel_rfl) ?_
        repeat (go_big_quiet_step (first | (go_at_call 22; exact Calls.regrown_of rbucket_any)))
        refine wpQuiet_nil ?_
        intro _ hw'
        obtain ⟨⟨dq, osq⟩, hw''⟩ := hw'
        subst hw''
        go_wp2
        go_ret
        exact ⟨rfl, below_on HB3.out (below_regrown W dq osq)⟩
end Go.Proofs.YtjplnelffiegmaaDoor
