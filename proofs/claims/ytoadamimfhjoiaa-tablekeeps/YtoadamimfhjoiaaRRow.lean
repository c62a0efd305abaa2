/-
  What the reference's Row, SameCols and Same return, for all rows, columns and tables.
-/
import Derived.Test.YtoadamimfhjoiaaSame
import Derived.Test.YtoadamimfhjoiaaRef
namespace Go.Proofs.Ytoadamimfhjoiaa
open Go.RowKit Go.Sort Go.Shelf

theorem regrown_cell {w : World} {a : Addr} {v : Value} (h : w.cell? a = some v) (d : Nat) (os : Array Obj) : (grow (redrawn w d) os).cell? a = some v :=
  ((below_regrown w d os).cell (block_lt_of_cell h)).trans h
theorem rcompare_is {x y : Vl} {c : Int} {w : World} (h : cmpL x y = c) : Calls Try.prog 52 #[x.val, y.val] w fun e w' => e = .returned (.int .i64 c) ∧ Below w.heap.size w w' := by rw [← h]; exact rcompare_any x.small y.small
set_option maxHeartbeats 1000000 in
theorem rrow_any {u v : Value} {r q : Rw} {w : World} (hu : RowAt w u r) (hv : RowAt w v q) :
    Calls Try.prog 40 #[u, v] w fun e w' => e = .returned (.int .i64 (cmpR r q)) ∧ Below w.heap.size w w' := by
  obtain ⟨p, cap, rfl, hcap, hmax, hx⟩ := hu
  obtain ⟨p', cap', rfl, hcap', hmax', hx'⟩ := hv
  unfold maxLen at hmax hmax'
  generalize hr : cmpR r q = res
  have HR := hid hr
  have HX := hid hx
  have HX' := hid hx'
  clear hr hx hx'
  generalize hn : r.length = n at *
  generalize hn' : q.length = m at *
  have HN := hid hn
  have HN' := hid hn'
  clear hn hn'
  go_enter Try.func40, Try.ntmps40
  go_wp2
  go_loopw [5] (fun i wr => ∃ k : Nat, k ≤ n ∧ k ≤ m ∧ i = .int .i64 k ∧ Hid (Below w.heap.size w wr) ∧ Hid (cmpR (r.drop k) (q.drop k) = res)) (fun i _ => n - (intOf i).toNat)
  case atStart => exact ⟨0, by omega, by omega, rfl, Below.refl _ _, HR.out⟩
  case round =>
    obtain ⟨k, hk, hk', rfl, HG, HD⟩ := hrel
    by_cases hlt : k < n
    · have hkr : k < r.length := by rw [HN.out]; exact hlt
      by_cases hlt' : k < m
      · have hkq : k < q.length := by rw [HN'.out]; exact hlt'
        obtain ⟨b, o, rfl, -, hj⟩ := HX.out (by intro e; subst e; simp at hkr)
        obtain ⟨b', o', rfl, -, hj'⟩ := HX'.out (by intro e; subst e; simp at hkq)
        obtain ⟨c0, c1, c2, c3, c4, c5, c6, c7, c8, c9, c10⟩ := val_cells ((hj k _ (get!_some hkr)).on HG.out)
        obtain ⟨d0, d1, d2, d3, d4, d5, d6, d7, d8, d9, d10⟩ := val_cells ((hj' k _ (get!_some hkq)).on HG.out)
        have HS := hid (cmpR_step hkr hkq)
        generalize r[k]! = x at c0 c1 c2 c3 c4 c5 c6 c7 c8 c9 c10 HS
        generalize q[k]! = y at d0 d1 d2 d3 d4 d5 d6 d7 d8 d9 d10 HS
        clear hj hj'
        replace c0 := regrown_cell c0
        replace c1 := regrown_cell c1
        replace c2 := regrown_cell c2
        replace c3 := regrown_cell c3
        replace c4 := regrown_cell c4
        replace c5 := regrown_cell c5
        replace c6 := regrown_cell c6
        replace c7 := regrown_cell c7
        replace c8 := regrown_cell c8
        replace c9 := regrown_cell c9
        replace c10 := regrown_cell c10
        replace d0 := regrown_cell d0
        replace d1 := regrown_cell d1
        replace d2 := regrown_cell d2
        replace d3 := regrown_cell d3
        replace d4 := regrown_cell d4
        replace d5 := regrown_cell d5
        replace d6 := regrown_cell d6
        replace d7 := regrown_cell d7
        replace d8 := regrown_cell d8
        replace d9 := regrown_cell d9
        replace d10 := regrown_cell d10
        by_cases hz : cmpL x y = 0
        · have HZ := hid hz
          clear hz
          go_wp2_with fail
          refine wp_region_quiet_below (by kernel_rfl) (by kernel_rfl) ?_
          repeat (go_big_quiet_step (first | (go_at_call 52; exact Calls.regrown_of (rcompare_is HZ.out))))
          refine wpQuiet_nil ?_
          intro _ hw'
          obtain ⟨⟨dq, osq⟩, hw''⟩ := hw'
          subst hw''
          go_wp2
          go_roundw
          case rel =>
            refine ⟨k + 1, by omega, by omega, by go_num, below_on HG.out (below_regrown wr dq osq), ?_⟩
            have := HS.out
            rw [HD.out, thn_zero (by simp [HZ.out])] at this
            exact this.symm
          case measure => simp [intOf]; omega
        · generalize hcv : cmpL x y = cv at *
          have hcz : (cv != 0) = true := by simpa using hz
          have HZ := hid hz
          have HCV := hid hcv
          clear hz hcv
          go_wp2_with fail
          refine wp_region_quiet_below (by kernel_rfl) (by kernel_rfl) ?_
          repeat (go_big_quiet_step (first | (go_at_call 52; exact Calls.regrown_of (rcompare_is HCV.out))))
          refine wpQuiet_nil ?_
          intro _ hw'
          obtain ⟨⟨dq, osq⟩, hw''⟩ := hw'
          subst hw''
          go_wp2
          go_ret
          refine ⟨ret_int ?_, below_on HG.out (below_regrown wr dq osq)⟩
          have := HS.out
          rw [HD.out, thn_ne hcz] at this
          exact this.symm
      · have hnl : decide ((k : Int) < (m : Int)) = false := by simp; omega
        have hkm : k = m := by omega
        subst hkm
        have hnm : ¬ (n : Int) < (k : Int) := by omega
        go_wp2
        go_ret
        exact ⟨ret_int ((cmpR_longer hkr (by rw [HN'.out]; omega)).symm.trans HD.out), HG.out⟩
    · have hks : k = n := by omega
      subst hks
      by_cases hlt' : k < m
      · go_wp2
        go_ret
        exact ⟨ret_int ((cmpR_shorter (by rw [HN.out]; omega) (by rw [HN'.out]; omega)).symm.trans HD.out), HG.out⟩
      · have hkm : k = m := by omega
        subst hkm
        go_wp2
        go_ret
        exact ⟨ret_int ((cmpR_ends (by rw [HN.out]; omega) (by rw [HN'.out]; omega)).symm.trans HD.out), HG.out⟩
theorem cols_ne {cs ds : List Cl} {k : Nat} (h : ¬ cs[k]! = ds[k]!) : ¬ cs = ds := fun e => h (by rw [e])
theorem cols_eq {cs ds : List Cl} (h1 : cs.length = ds.length) (h : ∀ k, k < cs.length → cs[k]! = ds[k]!) : cs = ds := by
  apply List.ext_getElem h1
  intro i hi hi'
  have := h i hi
  rw [List.getElem!_eq_getElem?_getD, List.getElem!_eq_getElem?_getD, List.getElem?_eq_getElem hi, List.getElem?_eq_getElem hi'] at this
  exact this
set_option maxHeartbeats 1000000 in
theorem samecols_any {u v : Value} {cs ds : List Cl} {w : World} (hu : ColsAt w u cs) (hv : ColsAt w v ds) :
    Calls Try.prog 39 #[u, v] w fun e w' => e = .returned (.bool (decide (cs = ds))) ∧ Below w.heap.size w w' := by
  obtain ⟨p, cap, rfl, hcap, hmax, hx⟩ := hu
  obtain ⟨p', cap', rfl, hcap', hmax', hx'⟩ := hv
  unfold maxLen at hmax hmax'
  generalize hr : decide (cs = ds) = res
  have HR := hid hr
  have HX := hid hx
  have HX' := hid hx'
  clear hr hx hx'
  generalize hn : cs.length = n at *
  generalize hn' : ds.length = m at *
  have HN := hid hn
  have HN' := hid hn'
  clear hn hn'
  by_cases hl : n = m
  · subst hl
    go_enter Try.func39, Try.ntmps39
    go_wp2
    go_loopw [5] (fun i wr => ∃ k : Nat, k ≤ n ∧ i = .int .i64 k ∧ Hid (Below w.heap.size w wr) ∧ Hid (∀ j, j < k → cs[j]! = ds[j]!)) (fun i _ => n - (intOf i).toNat)
    case atStart => exact ⟨0, by omega, rfl, Below.refl _ _, fun j h => absurd h (Nat.not_lt_zero _)⟩
    case round =>
      obtain ⟨k, hk, rfl, HB, HA⟩ := hrel
      by_cases hlt : k < n
      · have hkc : k < cs.length := by rw [HN.out]; exact hlt
        have hkd : k < ds.length := by rw [HN'.out]; exact hlt
        obtain ⟨b, o, rfl, -, hj⟩ := HX.out (by intro e; subst e; simp at hkc)
        obtain ⟨b', o', rfl, -, hj'⟩ := HX'.out (by intro e; subst e; simp at hkd)
        obtain ⟨c0, c1⟩ := col_cells ((hj k _ (get!_some hkc)).on HB.out)
        obtain ⟨d0, d1⟩ := col_cells ((hj' k _ (get!_some hkd)).on HB.out)
        have HNE := hid (cols_ne (cs := cs) (ds := ds) (k := k))
        have HSTEP : Hid (cs[k]! = ds[k]! → ∀ j, j < k + 1 → cs[j]! = ds[j]!) := fun e j hj => by
          by_cases h : j = k
          · subst h; exact e
          · exact HA.out j (by omega)
        generalize cs[k]! = x at c0 c1 HNE HSTEP
        generalize ds[k]! = y at d0 d1 HNE HSTEP
        clear hj hj'
        have hq : ∀ w : World, Sem.run Try.prog (binOp .neq 45 (.agg #[.string x.nm, .int .i64 x.kd]) (.agg #[.string y.nm, .int .i64 y.kd])) w = .ok (.bool (!eqC x y)) w := fun w => neqC.1 x y w
        cases hb : eqC x y with
        | true =>
          have HE := hid ((eqC_iff x y).1 hb)
          simp only [hb] at hq
          clear hb
          go_wp2_with fail
          go_quiet (fail)
          go_wp2
          go_roundw
          case rel => exact ⟨k + 1, by omega, by go_num, below_drewN HB.out _, HSTEP.out HE.out⟩
          case measure => simp [intOf]; omega
        | false =>
          have HE := hid (show ¬ x = y from fun e => by rw [(eqC_iff x y).2 e] at hb; cases hb)
          simp only [hb] at hq
          clear hb
          go_wp2_with fail
          go_quiet (fail)
          go_wp2
          go_ret
          exact ⟨ret_bool ((decide_eq_false (HNE.out HE.out)).symm.trans HR.out), below_drewN HB.out _⟩
      · have hks : k = n := by omega
        subst hks
        go_wp2
        go_ret
        exact ⟨ret_bool ((decide_eq_true (cols_eq (by rw [HN.out, HN'.out]) (by rw [HN.out]; exact HA.out))).symm.trans HR.out), HB.out⟩
  · have hne : ((n : Int) != (m : Int)) = true := by simp; omega
    go_enter Try.func39, Try.ntmps39
    go_wp2
    go_ret
    refine ⟨ret_bool ((decide_eq_false ?_).symm.trans HR.out), Below.refl _ _⟩
    intro e
    subst e
    exact hl (HN.out.symm.trans HN'.out)
end Go.Proofs.Ytoadamimfhjoiaa
