/-
  What the reference's Row, SameCols and Same return, for all rows, columns and tables.
  What the reference's Same returns, for every two tables.
  What the reference's Cols and Check return, for all columns and tables.
  What the reference's Check returns, for every table.
  What the statements' cut (the first rows of a table) returns.
-/
import Derived.Test.YtcidijjbcebcbaaKW13
import Derived.Test.YtcidijjbcebcbaaKW14
namespace Go.Proofs.Ytcidijjbcebcbaa.TN
open Go.RowKit Go.Sort Go.Shelf

theorem regrown_cell {w : World} {a : Addr} {v : Value} (h : w.cell? a = some v) (d : Nat) (os : Array Obj) : (grow (redrawn w d) os).cell? a = some v :=
  ((below_regrown w d os).cell (block_lt_of_cell h)).trans h
theorem rcompare_is {x y : Vl} {c : Int} {w : World} (h : cmpL x y = c) : Calls Try.prog 34 #[x.val, y.val] w fun e w' => e = .returned (.int .i64 c) ∧ Below w.heap.size w w' := by rw [← h]; exact rcompare_any x.small y.small
set_option maxHeartbeats 1000000 in
theorem rrow_any {u v : Value} {r q : Rw} {w : World} (hu : RowAt w u r) (hv : RowAt w v q) :
    Calls Try.prog 43 #[u, v] w fun e w' => e = .returned (.int .i64 (cmpR r q)) ∧ Below w.heap.size w w' := by
  obtain ⟨p, cap, rfl, hcap, hmax, hx⟩ := hu
  obtain ⟨p', cap', rfl, hcap', hmax', hx'⟩ := hv
  unfold maxLen at hmax hmax'
  generalize hr : cmpR r q = res
  have HR := hid hr
  have HX := hid hx
  have HX' := hid hx'
  clear hr hx hx'
  generalize hn : r.length = n at *
  generalize hn' : q.length = m at *
  have HN := hid hn
  have HN' := hid hn'
  clear hn hn'
  go_enter Try.func43, Try.ntmps43
  go_wp2
  go_loopw [5] (fun i wr => ∃ k : Nat, k ≤ n ∧ k ≤ m ∧ i = .int .i64 k ∧ Hid (Below w.heap.size w wr) ∧ Hid (cmpR (r.drop k) (q.drop k) = res)) (fun i _ => n - (intOf i).toNat)
  case atStart => exact ⟨0, by omega, by omega, rfl, Below.refl _ _, HR.out⟩
  case round =>
    obtain ⟨k, hk, hk', rfl, HG, HD⟩ := hrel
    by_cases hlt : k < n
    · have hkr : k < r.length := by rw [HN.out]; exact hlt
      by_cases hlt' : k < m
      · have hkq : k < q.length := by rw [HN'.out]; exact hlt'
        obtain ⟨b, o, rfl, -, hj⟩ := HX.out (by intro e; subst e; simp at hkr)
        obtain ⟨b', o', rfl, -, hj'⟩ := HX'.out (by intro e; subst e; simp at hkq)
        obtain ⟨c0, c1, c2, c3, c4, c5, c6, c7, c8, c9, c10⟩ := val_cells ((hj k _ (get!_some hkr)).on HG.out)
        obtain ⟨d0, d1, d2, d3, d4, d5, d6, d7, d8, d9, d10⟩ := val_cells ((hj' k _ (get!_some hkq)).on HG.out)
        have HS := hid (cmpR_step hkr hkq)
        generalize r[k]! = x at c0 c1 c2 c3 c4 c5 c6 c7 c8 c9 c10 HS
        generalize q[k]! = y at d0 d1 d2 d3 d4 d5 d6 d7 d8 d9 d10 HS
        clear hj hj'
        replace c0 := regrown_cell c0
        replace c1 := regrown_cell c1
        replace c2 := regrown_cell c2
        replace c3 := regrown_cell c3
        replace c4 := regrown_cell c4
        replace c5 := regrown_cell c5
        replace c6 := regrown_cell c6
        replace c7 := regrown_cell c7
        replace c8 := regrown_cell c8
        replace c9 := regrown_cell c9
        replace c10 := regrown_cell c10
        replace d0 := regrown_cell d0
        replace d1 := regrown_cell d1
        replace d2 := regrown_cell d2
        replace d3 := regrown_cell d3
        replace d4 := regrown_cell d4
        replace d5 := regrown_cell d5
        replace d6 := regrown_cell d6
        replace d7 := regrown_cell d7
        replace d8 := regrown_cell d8
        replace d9 := regrown_cell d9
        replace d10 := regrown_cell d10
        by_cases hz : cmpL x y = 0
        · have HZ := hid hz
          clear hz
          go_wp2_with fail
          refine wp_region_quiet_below (by kernel_rfl) (by kernel_rfl) ?_
          repeat (go_big_quiet_step (first | (go_at_call 34; exact Calls.regrown_of (rcompare_is HZ.out))))
          refine wpQuiet_nil ?_
          intro _ hw'
          obtain ⟨⟨dq, osq⟩, hw''⟩ := hw'
          subst hw''
          go_wp2
          go_roundw
          case rel =>
            refine ⟨k + 1, by omega, by omega, by go_num, below_on HG.out (below_regrown wr dq osq), ?_⟩
            have := HS.out
            rw [HD.out, thn_zero (by simp [HZ.out])] at this
            exact this.symm
          case measure => simp [intOf]; omega
        · generalize hcv : cmpL x y = cv at *
          have hcz : (cv != 0) = true := by simpa using hz
          have HZ := hid hz
          have HCV := hid hcv
          clear hz hcv
          go_wp2_with fail
          refine wp_region_quiet_below (by kernel_rfl) (by kernel_rfl) ?_
          repeat (go_big_quiet_step (first | (go_at_call 34; exact Calls.regrown_of (rcompare_is HCV.out))))
          refine wpQuiet_nil ?_
          intro _ hw'
          obtain ⟨⟨dq, osq⟩, hw''⟩ := hw'
          subst hw''
          go_wp2
          go_ret
          refine ⟨ret_int ?_, below_on HG.out (below_regrown wr dq osq)⟩
          have := HS.out
          rw [HD.out, thn_ne hcz] at this
          exact this.symm
      · have hnl : decide ((k : Int) < (m : Int)) = false := by simp; omega
        have hkm : k = m := by omega
        subst hkm
        have hnm : ¬ (n : Int) < (k : Int) := by omega
        go_wp2
        go_ret
        exact ⟨ret_int ((cmpR_longer hkr (by rw [HN'.out]; omega)).symm.trans HD.out), HG.out⟩
    · have hks : k = n := by omega
      subst hks
      by_cases hlt' : k < m
      · go_wp2
        go_ret
        exact ⟨ret_int ((cmpR_shorter (by rw [HN.out]; omega) (by rw [HN'.out]; omega)).symm.trans HD.out), HG.out⟩
      · have hkm : k = m := by omega
        subst hkm
        go_wp2
        go_ret
        exact ⟨ret_int ((cmpR_ends (by rw [HN.out]; omega) (by rw [HN'.out]; omega)).symm.trans HD.out), HG.out⟩
theorem cols_ne {cs ds : List Cl} {k : Nat} (h : ¬ cs[k]! = ds[k]!) : ¬ cs = ds := fun e => h (by rw [e])
theorem cols_eq {cs ds : List Cl} (h1 : cs.length = ds.length) (h : ∀ k, k < cs.length → cs[k]! = ds[k]!) : cs = ds := by
  apply List.ext_getElem h1
  intro i hi hi'
  have := h i hi
  rw [List.getElem!_eq_getElem?_getD, List.getElem!_eq_getElem?_getD, List.getElem?_eq_getElem hi, List.getElem?_eq_getElem hi'] at this
  exact this
set_option maxHeartbeats 1000000 in
theorem samecols_any {u v : Value} {cs ds : List Cl} {w : World} (hu : ColsAt w u cs) (hv : ColsAt w v ds) :
    Calls Try.prog 41 #[u, v] w fun e w' => e = .returned (.bool (decide (cs = ds))) ∧ Below w.heap.size w w' := by
  obtain ⟨p, cap, rfl, hcap, hmax, hx⟩ := hu
  obtain ⟨p', cap', rfl, hcap', hmax', hx'⟩ := hv
  unfold maxLen at hmax hmax'
  generalize hr : decide (cs = ds) = res
  have HR := hid hr
  have HX := hid hx
  have HX' := hid hx'
  clear hr hx hx'
  generalize hn : cs.length = n at *
  generalize hn' : ds.length = m at *
  have HN := hid hn
  have HN' := hid hn'
  clear hn hn'
  by_cases hl : n = m
  · subst hl
    go_enter Try.func41, Try.ntmps41
    go_wp2
    go_loopw [5] (fun i wr => ∃ k : Nat, k ≤ n ∧ i = .int .i64 k ∧ Hid (Below w.heap.size w wr) ∧ Hid (∀ j, j < k → cs[j]! = ds[j]!)) (fun i _ => n - (intOf i).toNat)
    case atStart => exact ⟨0, by omega, rfl, Below.refl _ _, fun j h => absurd h (Nat.not_lt_zero _)⟩
    case round =>
      obtain ⟨k, hk, rfl, HB, HA⟩ := hrel
      by_cases hlt : k < n
      · have hkc : k < cs.length := by rw [HN.out]; exact hlt
        have hkd : k < ds.length := by rw [HN'.out]; exact hlt
        obtain ⟨b, o, rfl, -, hj⟩ := HX.out (by intro e; subst e; simp at hkc)
        obtain ⟨b', o', rfl, -, hj'⟩ := HX'.out (by intro e; subst e; simp at hkd)
        obtain ⟨c0, c1⟩ := col_cells ((hj k _ (get!_some hkc)).on HB.out)
        obtain ⟨d0, d1⟩ := col_cells ((hj' k _ (get!_some hkd)).on HB.out)
        have HNE := hid (cols_ne (cs := cs) (ds := ds) (k := k))
        have HSTEP : Hid (cs[k]! = ds[k]! → ∀ j, j < k + 1 → cs[j]! = ds[j]!) := fun e j hj => by
          by_cases h : j = k
          · subst h; exact e
          · exact HA.out j (by omega)
        generalize cs[k]! = x at c0 c1 HNE HSTEP
        generalize ds[k]! = y at d0 d1 HNE HSTEP
        clear hj hj'
        have hq : ∀ w : World, Sem.run Try.prog (binOp .neq 61 (.agg #[.string x.nm, .int .i64 x.kd]) (.agg #[.string y.nm, .int .i64 y.kd])) w = .ok (.bool (!eqC x y)) w := fun w => neqC.1 x y w
        cases hb : eqC x y with
        | true =>
          have HE := hid ((eqC_iff x y).1 hb)
          simp only [hb] at hq
          clear hb
          go_wp2_with fail
          go_quiet (fail)
          go_wp2
          go_roundw
          case rel => exact ⟨k + 1, by omega, by go_num, below_drewN HB.out _, HSTEP.out HE.out⟩
          case measure => simp [intOf]; omega
        | false =>
          have HE := hid (show ¬ x = y from fun e => by rw [(eqC_iff x y).2 e] at hb; cases hb)
          simp only [hb] at hq
          clear hb
          go_wp2_with fail
          go_quiet (fail)
          go_wp2
          go_ret
          exact ⟨ret_bool ((decide_eq_false (HNE.out HE.out)).symm.trans HR.out), below_drewN HB.out _⟩
      · have hks : k = n := by omega
        subst hks
        go_wp2
        go_ret
        exact ⟨ret_bool ((decide_eq_true (cols_eq (by rw [HN.out, HN'.out]) (by rw [HN.out]; exact HA.out))).symm.trans HR.out), HB.out⟩
  · have hne : ((n : Int) != (m : Int)) = true := by simp; omega
    go_enter Try.func41, Try.ntmps41
    go_wp2
    go_ret
    refine ⟨ret_bool ((decide_eq_false ?_).symm.trans HR.out), Below.refl _ _⟩
    intro e
    subst e
    exact hl (HN.out.symm.trans HN'.out)
end Go.Proofs.Ytcidijjbcebcbaa.TN
namespace Go.Proofs.Ytcidijjbcebcbaa.TN
open Go.RowKit Go.Sort Go.Shelf

theorem samecols_is {u v : Value} {r q : List Cl} {w : World} {c : Bool} (hu : ColsAt w u r) (hv : ColsAt w v q) (h : decide (r = q) = c) :
    Calls Try.prog 41 #[u, v] w fun e w' => e = .returned (.bool c) ∧ Below w.heap.size w w' := by rw [← h]; exact samecols_any hu hv
theorem rrow_is {u v : Value} {r q : Rw} {w : World} {c : Int} (hu : RowAt w u r) (hv : RowAt w v q) (h : cmpR r q = c) :
    Calls Try.prog 43 #[u, v] w fun e w' => e = .returned (.int .i64 c) ∧ Below w.heap.size w w' := by rw [← h]; exact rrow_any hu hv
set_option maxHeartbeats 1000000 in
theorem rsame_any {u v : Value} {cs ds : List Cl} {rs qs : List Rw} {w : World} (hu : TabAt w u cs rs) (hv : TabAt w v ds qs) :
    Calls Try.prog 23 #[u, v] w fun e w' => e = .returned (.bool (decide (cs = ds ∧ rs = qs))) ∧ Below w.heap.size w w' := by
  obtain ⟨c, r, rfl, hc, hs, ⟨p, cap, rfl, hcap, hmax, hx⟩, hh⟩ := hu
  obtain ⟨c', r', rfl, hc', hs', ⟨p', cap', rfl, hcap', hmax', hx'⟩, hh'⟩ := hv
  unfold maxLen at hmax hmax'
  generalize hn : hs.length = n at *
  generalize hn' : hs'.length = m at *
  have HN := hid hn
  have HN' := hid hn'
  clear hn hn'
  have HC := hid hc
  have HC' := hid hc'
  have HX := hid hx
  have HX' := hid hx'
  have HH := hid hh
  have HH' := hid hh'
  clear hc hc' hx hx' hh hh'
  have HB : Hid (Below w.heap.size w ((w.alloc (.cells #[c, .slice p n cap] 28)).alloc (.cells #[c', .slice p' m cap'] 28))) := ((Below.refl w.heap.size w).alloc (Nat.le_refl _) _).alloc (by simp) _
  have K0 := hid (block_on (alloc_block w (.cells #[c, .slice p n cap] 28)) ((Below.refl _ _).alloc (Nat.le_refl _) (.cells #[c', .slice p' m cap'] 28)))
  have K1 : Hid (((w.alloc (.cells #[c, .slice p n cap] 28)).alloc (.cells #[c', .slice p' m cap'] 28)).heap[w.heap.size + 1]? = some (.cells #[c', .slice p' m cap'] 28 (0, 0))) := by
    have h := alloc_block (w.alloc (.cells #[c, .slice p n cap] 28)) (.cells #[c', .slice p' m cap'] 28)
    rw [World.size_alloc] at h
    exact h
  cases hcd : decide (cs = ds) with
  | false =>
    have he : decide (cs = ds ∧ rs = qs) = false := decide_eq_false fun h => of_decide_eq_false hcd h.1
    rw [he]
    go_enter Try.func23, Try.ntmps23
    go_wp2_with (first | (go_at_call 41; refine (samecols_is (HC.out.on HB.out) (HC'.out.on HB.out) hcd).mono ?_; rintro e w1 ⟨rfl, hb1⟩))
    go_ret
    exact ⟨rfl, below_on HB.out hb1⟩
  | true =>
    have he : decide (cs = ds ∧ rs = qs) = decide (rs = qs) := by
      have := of_decide_eq_true hcd
      by_cases h : rs = qs <;> simp [this, h]
    rw [he]
    clear he
    generalize hr : decide (rs = qs) = res
    have HR := hid hr
    clear hr
    by_cases hl : n = m
    · subst hl
      go_enter Try.func23, Try.ntmps23
      go_wp2_with (first | (go_at_call 41; refine (samecols_is (HC.out.on HB.out) (HC'.out.on HB.out) hcd).mono ?_; rintro e w1 ⟨rfl, hb1⟩; have HB1 := hid (below_on HB.out hb1); have HK0 := hid (block_on K0.out hb1); have HK1 := hid (block_on K1.out hb1); have k0 := block_cell HK0.out; have k1 := block_cell HK1.out; clear hb1))
      go_loopw [5] (fun i wr => ∃ k : Nat, k ≤ n ∧ i = .int .i64 k ∧ Hid (Below w.heap.size w wr) ∧ Hid (wr.heap[w.heap.size]? = some (.cells #[c, .slice p n cap] 28 (0, 0))) ∧ Hid (wr.heap[w.heap.size + 1]? = some (.cells #[c', .slice p' n cap'] 28 (0, 0))) ∧ Hid (∀ j, j < k → rs[j]! = qs[j]!)) (fun i _ => n - (intOf i).toNat)
      case atStart => exact ⟨0, by omega, rfl, HB1.out, HK0.out, HK1.out, fun j h => absurd h (Nat.not_lt_zero _)⟩
      case round =>
        clear k0 k1 HK0 HK1
        obtain ⟨k, hk, rfl, HB2, HK0, HK1, HA⟩ := hrel
        by_cases hlt : k < n
        · have hkh : k < hs.length := by rw [HN.out]; exact hlt
          have hkr : k < rs.length := by rw [← HH.out.1]; exact hkh
          have hkh' : k < hs'.length := by rw [HN'.out]; exact hlt
          have hkr' : k < qs.length := by rw [← HH'.out.1]; exact hkh'
          obtain ⟨b, o, rfl, -, hj⟩ := HX.out (by intro e; subst e; simp at hkh)
          obtain ⟨b', o', rfl, -, hj'⟩ := HX'.out (by intro e; subst e; simp at hkh')
          have hd := head_cell (fun j x hjx => (hj j x hjx).on HB2.out) (get!_some hkh)
          have hd' := head_cell (fun j x hjx => (hj' j x hjx).on HB2.out) (get!_some hkh')
          have HRow := hid ((HH.out.2 k _ _ (get!_some hkh) (get!_some hkr)).on HB2.out)
          have HRow' := hid ((HH'.out.2 k _ _ (get!_some hkh') (get!_some hkr')).on HB2.out)
          generalize hs[k]! = hd0 at hd HRow
          generalize hs'[k]! = hd0' at hd' HRow'
          clear hj hj'
          have HNE := hid (rows_ne (rs := rs) (qs := qs) (k := k))
          have HSTEP : Hid (rs[k]! = qs[k]! → ∀ j, j < k + 1 → rs[j]! = qs[j]!) := fun e j hj => by
            by_cases h : j = k
            · subst h; exact e
            · exact HA.out j (by omega)
          generalize rs[k]! = r0 at HRow HNE HSTEP
          generalize qs[k]! = q0 at HRow' HNE HSTEP
          have k0 := block_cell HK0.out
          have k1 := block_cell HK1.out
          have kk0 : ∀ d os j, (grow (redrawn wr d) os).cell? ⟨w.heap.size, j, none⟩ = (#[c, .slice (some ⟨b, o, none⟩) n cap] : Array Value)[j]? := fun d os j => block_cell (block_on HK0.out (below_regrown wr d os)) j
          have kk1 : ∀ d os j, (grow (redrawn wr d) os).cell? ⟨w.heap.size + 1, j, none⟩ = (#[c', .slice (some ⟨b', o', none⟩) n cap'] : Array Value)[j]? := fun d os j => block_cell (block_on HK1.out (below_regrown wr d os)) j
          have hd2 := regrown_cell hd
          have hd2' := regrown_cell hd'
          have HRw : ∀ d os, Hid (RowAt (grow (redrawn wr d) os) hd0 r0) := fun d os => HRow.out.on (below_regrown wr d os)
          have HRw' : ∀ d os, Hid (RowAt (grow (redrawn wr d) os) hd0' q0) := fun d os => HRow'.out.on (below_regrown wr d os)
          clear hd hd'
          by_cases hz : cmpR r0 q0 = 0
          · have HZ := hid hz
            clear hz
            go_wp2_with fail
            refine wp_region_quiet_below (by kernel_rfl) (by kernel_rfl) ?_
            repeat (go_big_quiet_step (first | (go_at_call 43; exact Calls.regrown_of (rrow_is (HRw _ _).out (HRw' _ _).out HZ.out))))
            refine wpQuiet_nil ?_
            intro _ hw'
            obtain ⟨⟨dq, osq⟩, hw''⟩ := hw'
            subst hw''
            go_wp2
            go_roundw
            case rel => exact ⟨k + 1, by omega, by go_num, below_on HB2.out (below_regrown wr dq osq), block_on HK0.out (below_regrown wr dq osq), block_on HK1.out (below_regrown wr dq osq), HSTEP.out ((cmpR_zero _ _).1 HZ.out)⟩
            case measure => simp [intOf]; omega
          · generalize hcv : cmpR r0 q0 = cv at *
            have hcz : (cv != 0) = true := by simpa using hz
            have HZ := hid (show ¬ r0 = q0 from fun e => hz (hcv.symm.trans ((cmpR_zero _ _).2 e)))
            have HCV := hid hcv
            clear hz hcv
            go_wp2_with fail
            refine wp_region_quiet_below (by kernel_rfl) (by kernel_rfl) ?_
            repeat (go_big_quiet_step (first | (go_at_call 43; exact Calls.regrown_of (rrow_is (HRw _ _).out (HRw' _ _).out HCV.out))))
            refine wpQuiet_nil ?_
            intro _ hw'
            obtain ⟨⟨dq, osq⟩, hw''⟩ := hw'
            subst hw''
            go_wp2
            go_ret
            exact ⟨ret_bool ((decide_eq_false (HNE.out HZ.out)).symm.trans HR.out), below_on HB2.out (below_regrown wr dq osq)⟩
        · have hks : k = n := by omega
          subst hks
          have k0 := block_cell HK0.out
          go_wp2
          go_ret
          exact ⟨ret_bool ((decide_eq_true (rows_eq (by rw [← HH.out.1, ← HH'.out.1, HN.out, HN'.out]) (by rw [← HH.out.1, HN.out]; exact HA.out))).symm.trans HR.out), HB2.out⟩
    · have hne : ((n : Int) != (m : Int)) = true := by simp; omega
      go_enter Try.func23, Try.ntmps23
      go_wp2_with (first | (go_at_call 41; refine (samecols_is (HC.out.on HB.out) (HC'.out.on HB.out) hcd).mono ?_; rintro e w1 ⟨rfl, hb1⟩; have HB1 := hid (below_on HB.out hb1); have HK0 := hid (block_on K0.out hb1); have HK1 := hid (block_on K1.out hb1); have k0 := block_cell HK0.out; have k1 := block_cell HK1.out; clear hb1))
      go_ret
      refine ⟨ret_bool ((decide_eq_false ?_).symm.trans HR.out), HB1.out⟩
      intro e
      subst e
      apply hl
      rw [← HN.out, ← HN'.out, HH.out.1, HH'.out.1]
end Go.Proofs.Ytcidijjbcebcbaa.TN
namespace Go.Proofs.Ytcidijjbcebcbaa.TN
open Go.RowKit Go.Sort Go.Shelf

theorem rname_is {s : ByteArray} {r : Bool} {w : World} (hs : s.size ≤ maxLen) (h : nameB s = r) : Calls Try.prog 99 #[.string s] w fun e w' => e = .returned (.bool r) ∧ w' = w := by rw [← h]; exact rname_any hs
theorem rfind_is {v : Value} {cs : List Cl} {nm : ByteArray} {r : Int} {w : World} (hv : ColsAt w v cs) (h : findC cs nm = r) : Calls Try.prog 44 #[v, .string nm] w fun e w' => e = .returned (.int .i64 r) ∧ Below w.heap.size w w' := by rw [← h]; exact rfind_any hv
theorem cell_on {w w' : World} {a : Addr} {v : Value} (h : w.cell? a = some v) (hb : Below w.heap.size w w') : w'.cell? a = some v :=
  (hb.cell (block_lt_of_cell h)).trans h
set_option maxHeartbeats 1000000 in
theorem rcols_any {v : Value} {cs : List Cl} {w : World} (hv : ColsAt w v cs) :
    Calls Try.prog 64 #[v] w fun e w' => e = .returned (.bool (colsB cs)) ∧ Below w.heap.size w w' := by
  have hv0 := hv
  obtain ⟨p, cap, rfl, hcap, hmax, hx⟩ := hv
  unfold maxLen at hmax
  generalize hr : colsB cs = r
  have HR := hid hr
  clear hr
  by_cases h1 : cs.length < 1
  · have g1 : (cs.length : Int) < 1 := by omega
    clear hx hv0
    go_enter Try.func64, Try.ntmps64
    go_wp2
    go_ret
    exact ⟨ret_bool ((colsB_no (by omega)).symm.trans HR.out), Below.refl _ _⟩
  · have g1 : ¬ (cs.length : Int) < 1 := by omega
    by_cases h2 : 16 < cs.length
    · have g2 : (16 : Int) < (cs.length : Int) := by omega
      clear hx hv0
      go_enter Try.func64, Try.ntmps64
      go_wp2
      go_ret
      exact ⟨ret_bool ((colsB_no (by omega)).symm.trans HR.out), Below.refl _ _⟩
    · have g2 : ¬ (16 : Int) < (cs.length : Int) := by omega
      obtain ⟨b, o, rfl, -, hj⟩ := hx (by intro e; subst e; simp at h1)
      have HV := hid hv0
      have HJ := hid hj
      clear hx hv0 hj
      generalize hn : cs.length = n at *
      have HN := hid hn
      clear hn
      go_enter Try.func64, Try.ntmps64
      go_wp2
      go_loopw [3] (fun i wr => ∃ k : Nat, k ≤ n ∧ i = .int .i64 k ∧ Hid (Below w.heap.size w wr) ∧ Hid (∀ j, j < k → colOk cs j cs[j]! = true)) (fun i _ => n - (intOf i).toNat)
      case atStart => exact ⟨0, by omega, rfl, Below.refl _ _, fun j h => absurd h (Nat.not_lt_zero _)⟩
      case round =>
        obtain ⟨k, hk, rfl, HB, HA⟩ := hrel
        by_cases hlt : k < n
        · have hkc : k < cs.length := by rw [HN.out]; exact hlt
          obtain ⟨hc0, hc1⟩ := col_cells ((HJ.out k _ (get!_some hkc)).on HB.out)
          generalize hcc : cs[k]! = c at hc0 hc1
          have HCC := hid hcc
          have HC1 := hid hc1
          clear hcc
          have HS := hid c.small
          cases hb : nameB c.nm with
          | false =>
            go_wp2_with (first | (go_at_call 99; refine (rname_is HS.out hb).mono ?_; rintro e w' ⟨rfl, rfl⟩))
            go_ret
            exact ⟨ret_bool ((colsB_bad hkc (by rw [HCC.out]; exact colOk_name hb)).symm.trans HR.out), HB.out⟩
          | true =>
            generalize hf : findC cs c.nm = f
            have HF := hid hf
            clear hf
            by_cases hfk : f = (k : Int)
            · subst hfk
              by_cases h3 : c.kd < 1
              · go_wp2_with (first | (go_at_call 99; refine (rname_is HS.out hb).mono ?_; rintro e w' ⟨rfl, rfl⟩) | (go_at_call 44; refine (rfind_is (HV.out.on HB.out) HF.out).mono ?_; rintro e w2 ⟨rfl, hbl⟩; have hc2 := cell_on HC1.out hbl; have HBL := hid hbl; clear hbl))
                go_ret
                exact ⟨ret_bool ((colsB_bad hkc (by rw [HCC.out]; exact colOk_kind (by omega))).symm.trans HR.out), below_on HB.out HBL.out⟩
              · by_cases h4 : 4 < c.kd
                · go_wp2_with (first | (go_at_call 99; refine (rname_is HS.out hb).mono ?_; rintro e w' ⟨rfl, rfl⟩) | (go_at_call 44; refine (rfind_is (HV.out.on HB.out) HF.out).mono ?_; rintro e w2 ⟨rfl, hbl⟩; have hc2 := cell_on HC1.out hbl; have HBL := hid hbl; clear hbl))
                  go_ret
                  exact ⟨ret_bool ((colsB_bad hkc (by rw [HCC.out]; exact colOk_kind (by omega))).symm.trans HR.out), below_on HB.out HBL.out⟩
                · go_wp2_with (first | (go_at_call 99; refine (rname_is HS.out hb).mono ?_; rintro e w' ⟨rfl, rfl⟩) | (go_at_call 44; refine (rfind_is (HV.out.on HB.out) HF.out).mono ?_; rintro e w2 ⟨rfl, hbl⟩; have hc2 := cell_on HC1.out hbl; have HBL := hid hbl; clear hbl))
                  go_roundw
                  case rel =>
                    refine ⟨k + 1, by omega, by go_num, below_on HB.out HBL.out, fun j h => ?_⟩
                    by_cases e : j = k
                    · subst e; rw [HCC.out]; exact colOk_yes hb HF.out (by omega) (by omega)
                    · exact HA.out j (by omega)
                  case measure => simp [intOf]; omega
            · have hne : (f != (k : Int)) = true := by simpa using hfk
              have HFK := hid hfk
              clear hfk
              go_wp2_with (first | (go_at_call 99; refine (rname_is HS.out hb).mono ?_; rintro e w' ⟨rfl, rfl⟩) | (go_at_call 44; refine (rfind_is (HV.out.on HB.out) HF.out).mono ?_; rintro e w2 ⟨rfl, hbl⟩; have hc2 := cell_on HC1.out hbl; have HBL := hid hbl; clear hbl))
              go_ret
              exact ⟨ret_bool ((colsB_bad hkc (by rw [HCC.out]; exact colOk_find (by rw [HF.out]; exact HFK.out))).symm.trans HR.out), below_on HB.out HBL.out⟩
        · have hks : k = n := by omega
          subst hks
          go_wp2
          go_ret
          exact ⟨ret_bool ((colsB_yes (by rw [HN.out]; omega) (by rw [HN.out]; exact HA.out)).symm.trans HR.out), HB.out⟩
end Go.Proofs.Ytcidijjbcebcbaa.TN
namespace Go.Proofs.Ytcidijjbcebcbaa.TN
open Go.RowKit Go.Sort Go.Shelf

theorem rcols_is {v : Value} {cs : List Cl} {r : Bool} {w : World} (hv : ColsAt w v cs) (h : colsB cs = r) : Calls Try.prog 64 #[v] w fun e w' => e = .returned (.bool r) ∧ Below w.heap.size w w' := by rw [← h]; exact rcols_any hv
theorem rvalid_is {x : Vl} {r : Bool} {w : World} (h : validL x = r) : Calls Try.prog 65 #[x.val] w fun e w' => e = .returned (.bool r) ∧ Below w.heap.size w w' := by rw [← h]; exact rvalid_any
set_option maxHeartbeats 2000000 in
theorem rcheck_any {v : Value} {cs : List Cl} {rs : List Rw} {w : World} (hv : TabAt w v cs rs) :
    Calls Try.prog 32 #[v] w fun e w' => e = .returned (.int .i64 (checkV cs rs)) ∧ Below w.heap.size w w' := by
  obtain ⟨c, rv, rfl, hc, hs, hrs, hh⟩ := hv
  have HC := hid hc
  obtain ⟨p, cap, rfl, hcap, hmax, hx⟩ := hrs
  obtain ⟨q, cap', rfl, hcap', hmax', hy⟩ := hc
  unfold maxLen at hmax hmax'
  generalize hr : checkV cs rs = res
  have HR := hid hr
  have HX := hid hx
  have HY := hid hy
  have HH := hid hh
  clear hr hx hh hy
  generalize hn : hs.length = n at *
  generalize hm : cs.length = m at *
  have HN := hid hn
  have HM := hid hm
  clear hn hm
  have HE : Hid (Below w.heap.size w (w.alloc (.cells #[.slice q m cap', .slice p n cap] 28))) := (Below.refl _ _).alloc (Nat.le_refl _) _
  have KB := hid (alloc_block w (.cells #[.slice q m cap', .slice p n cap] 28))
  cases hb : colsB cs with
  | false =>
    go_enter Try.func32, Try.ntmps32
    go_wp2_with (first | (go_at_call 64; refine (rcols_is (HC.out.on HE.out) hb).mono ?_; rintro e w1 ⟨rfl, hb1⟩))
    go_ret
    exact ⟨ret_int ((check_cols hb).symm.trans HR.out), below_on HE.out hb1⟩
  | true =>
    have HCB := hid hb
    go_enter Try.func32, Try.ntmps32
    go_wp2_with (first | (go_at_call 64; refine (rcols_is (HC.out.on HE.out) hb).mono ?_; rintro e w1 ⟨rfl, hb1⟩; have HB1 := hid (below_on HE.out hb1); have KB1 := hid (block_on KB.out hb1); have kb1 := block_cell KB1.out; clear hb1))
    clear kb1 hb HE KB
    go_loopw [3] (fun i wr => ∃ k : Nat, k ≤ n ∧ i = .int .i64 k ∧ Hid (Below w.heap.size w wr) ∧ Hid (wr.heap[w.heap.size]? = some (.cells #[.slice q m cap', .slice p n cap] 28 (0, 0))) ∧ Hid (∀ j, j < k → rowB cs rs[j]! = true)) (fun i _ => n - (intOf i).toNat)
    case atStart => exact ⟨0, by omega, rfl, HB1.out, KB1.out, fun j h => absurd h (Nat.not_lt_zero _)⟩
    case round =>
      clear HB1 KB1
      obtain ⟨k, hk, rfl, HB, HK, HA⟩ := hrel
      have k0 := block_cell HK.out
      by_cases hlt : k < n
      · have hkh : k < hs.length := by rw [HN.out]; exact hlt
        have hkr : k < rs.length := by rw [← HH.out.1]; exact hkh
        obtain ⟨b, o, rfl, -, hj⟩ := HX.out (by intro e; subst e; simp at hkh)
        have hd := head_cell (fun j x hjx => (hj j x hjx).on HB.out) (get!_some hkh)
        have HRow := hid ((HH.out.2 k _ _ (get!_some hkh) (get!_some hkr)).on HB.out)
        have HBAD := hid (fun h => check_bad (cs := cs) (rs := rs) HCB.out hkr h)
        have HSTEP : Hid (rowB cs rs[k]! = true → ∀ j, j < k + 1 → rowB cs rs[j]! = true) := fun e j hj => by
          by_cases h : j = k
          · subst h; exact e
          · exact HA.out j (by omega)
        generalize hs[k]! = hd0 at hd HRow
        generalize rs[k]! = r at HRow HBAD HSTEP
        clear hj
        obtain ⟨q', capr, rfl, hcapr, hmaxr, hz⟩ := HRow.out
        unfold maxLen at hmaxr
        have HZ := hid hz
        clear hz
        generalize hl : r.length = l at *
        have HL := hid hl
        clear hl
        by_cases hlm : l = m
        · have hne : ((l : Int) != (m : Int)) = false := by simp; omega
          go_wp2_with fail
          go_quiet (fail)
          have HB2 := hid (below_drewN HB.out nq)
          have HK2 := hid (show (wr.drewN nq).heap[w.heap.size]? = _ from HK.out)
          have hd2 : (wr.drewN nq).cell? ⟨b, o + k, none⟩ = _ := hd
          have HD2 := hid hd2
          have HZ2 : Hid (r ≠ [] → ∃ b o, q' = some ⟨b, o, none⟩ ∧ (any b ∧ l * bsz 11 ≤ 140737488355328) ∧ ∀ (j : Nat) x, r[j]? = some x → CellsAt (wr.drewN nq) b (o + j * 11) x.cells) := fun hne => by
            obtain ⟨b, o, hp, hQ, hj⟩ := HZ.out hne
            exact ⟨b, o, hp, hQ, fun j x hjx => (hj j x hjx).on (below_drewN (Below.refl _ _) nq)⟩
          clear k0 hd HB HK HZ HRow hd2
          generalize wr.drewN nq = w3 at *
          go_wp2
          go_loopw [4] (fun i w4 => ∃ j : Nat, j ≤ m ∧ i = .int .i64 j ∧ Hid (Below w3.heap.size w3 w4) ∧ Hid (∀ t, t < j → fitB cs[t]!.kd r[t]! = true)) (fun i _ => m - (intOf i).toNat)
          case atStart => exact ⟨0, by omega, rfl, Below.refl _ _, fun j h => absurd h (Nat.not_lt_zero _)⟩
          case round =>
            obtain ⟨j, hj, rfl, HB4, HF⟩ := hrel
            have HB5 := hid (below_on HB2.out HB4.out)
            have HK5 := hid (block_on HK2.out HB4.out)
            have kk := block_cell HK5.out
            by_cases hjm : j < m
            · have hjr : j < r.length := by rw [HL.out]; omega
              have hjc : j < cs.length := by rw [HM.out]; exact hjm
              obtain ⟨b1, o1, rfl, -, hv1⟩ := HZ2.out (by intro e; subst e; simp at hjr)
              obtain ⟨b2, o2, rfl, -, hv2⟩ := HY.out (by intro e; subst e; simp at hjc)
              obtain ⟨c0, c1, c2, c3, c4, c5, c6, c7, c8, c9, c10⟩ := val_cells ((hv1 j _ (get!_some hjr)).on HB4.out)
              obtain ⟨e0, e1⟩ := col_cells ((hv2 j _ (get!_some hjc)).on HB5.out)
              have hd5 := cell_on HD2.out HB4.out
              have HFBAD := hid (fun h => rowB_bad (cs := cs) (r := r) hjr h)
              have HFSTEP : Hid (fitB cs[j]!.kd r[j]! = true → ∀ t, t < j + 1 → fitB cs[t]!.kd r[t]! = true) := fun e t ht => by
                by_cases h : t = j
                · subst h; exact e
                · exact HF.out t (by omega)
              generalize r[j]! = x at c0 c1 c2 c3 c4 c5 c6 c7 c8 c9 c10 HFBAD HFSTEP
              generalize cs[j]! = y at e0 e1 HFBAD HFSTEP
              clear hv1 hv2 HZ2
              replace c0 := regrown_cell c0
              replace c1 := regrown_cell c1
              replace c2 := regrown_cell c2
              replace c3 := regrown_cell c3
              replace c4 := regrown_cell c4
              replace c5 := regrown_cell c5
              replace c6 := regrown_cell c6
              replace c7 := regrown_cell c7
              replace c8 := regrown_cell c8
              replace c9 := regrown_cell c9
              replace c10 := regrown_cell c10
              replace e1 := regrown_cell e1
              replace hd5 := regrown_cell hd5
              have kk0 : ∀ d os i, (grow (redrawn wr d) os).cell? ⟨w.heap.size, i, none⟩ = (#[.slice (some ⟨b2, o2, none⟩) m cap', .slice (some ⟨b, o, none⟩) n cap] : Array Value)[i]? := fun d os i => block_cell (block_on HK5.out (below_regrown wr d os)) i
              clear e0
              by_cases hkd : x.k = y.kd
              · have hkn : (x.k != y.kd) = false := by simpa using hkd
                have HKD := hid hkd
                clear hkd
                cases hvl : validL x with
                | true =>
                  go_wp2_with fail
                  refine wp_region_quiet_below (by kernel_rfl) (by kernel_rfl) ?_
                  repeat (go_big_quiet_step (first | (go_at_call 65; exact Calls.regrown_of (rvalid_is hvl))))
                  refine wpQuiet_nil ?_
                  intro _ hw'
                  obtain ⟨⟨dq, osq⟩, hw''⟩ := hw'
                  subst hw''
                  go_wp2
                  go_roundw
                  case rel => exact ⟨j + 1, by omega, by go_num, below_on HB4.out (below_regrown wr dq osq), HFSTEP.out (by rw [fit_is HKD.out]; exact hvl)⟩
                  case measure => simp [intOf]; omega
                | false =>
                  go_wp2_with fail
                  refine wp_region_quiet_below (by kernel_rfl) (by kernel_rfl) ?_
                  repeat (go_big_quiet_step (first | (go_at_call 65; exact Calls.regrown_of (rvalid_is hvl))))
                  refine wpQuiet_nil ?_
                  intro _ hw'
                  obtain ⟨⟨dq, osq⟩, hw''⟩ := hw'
                  subst hw''
                  go_wp2
                  go_ret
                  exact ⟨ret_int ((HBAD.out (HFBAD.out (by rw [fit_is HKD.out]; exact hvl))).symm.trans HR.out), below_on HB5.out (below_regrown wr dq osq)⟩
              · have hkn : (x.k != y.kd) = true := by simpa using hkd
                have HKD := hid hkd
                clear hkd
                go_wp2_with fail
                refine wp_region_quiet_below (by kernel_rfl) (by kernel_rfl) ?_
                repeat (go_big_quiet_step (first | fail))
                refine wpQuiet_nil ?_
                intro _ hw'
                obtain ⟨⟨dq, osq⟩, hw''⟩ := hw'
                subst hw''
                go_wp2
                go_ret
                exact ⟨ret_int ((HBAD.out (HFBAD.out (fit_no HKD.out))).symm.trans HR.out), below_on HB5.out (below_regrown wr dq osq)⟩
            · have hjs : j = m := by omega
              subst hjs
              go_wp2
              go_roundw
              case rel => exact ⟨k + 1, by omega, by go_num, HB5.out, HK5.out, HSTEP.out (rowB_yes (by rw [HL.out, HM.out]; exact hlm) (by rw [HL.out, hlm]; exact HF.out))⟩
              case measure => simp [intOf]; omega
        · have hne : ((l : Int) != (m : Int)) = true := by simp; omega
          go_wp2_with fail
          go_quiet (fail)
          go_wp2
          go_ret
          exact ⟨ret_int ((HBAD.out (rowB_no (by rw [HL.out, HM.out]; exact hlm))).symm.trans HR.out), below_drewN HB.out _⟩
      · have hks : k = n := by omega
        subst hks
        go_wp2
        go_ret
        exact ⟨ret_int ((check_ok HCB.out (by rw [← HH.out.1, HN.out]; exact HA.out)).symm.trans HR.out), HB.out⟩
end Go.Proofs.Ytcidijjbcebcbaa.TN
namespace Go.Proofs.Ytcidijjbcebcbaa.TN
open Go.RowKit Go.Sort Go.Shelf

theorem SlAt.take {α : Type} {Q : Nat → Prop} {enc : α → List Value} {k : Nat} {w : World} {p : Option Addr} {n cap : Nat} {xs : List α} (h : SlAt Q enc k w (.slice p n cap) xs) (m : Nat) (hm : m ≤ n) : SlAt Q enc k w (.slice p m cap) (xs.take m) := by
  obtain ⟨p', cap', hv, ⟨hc, hno⟩, hmx, hx⟩ := h
  cases hv
  have hl : (xs.take m).length = m := by simp; omega
  refine ⟨p, cap, by rw [hl], ⟨by omega, hno⟩, by omega, fun hne => ?_⟩
  obtain ⟨b, o, hp, hQ, hj⟩ := hx (by intro e; subst e; simp at hne)
  refine ⟨b, o, hp, ⟨hQ.1, Nat.le_trans (Nat.mul_le_mul_right _ (by omega)) hQ.2⟩, fun j x hjx => hj j x ?_⟩
  have hlt : j < m := by have := (List.getElem?_eq_some_iff.1 hjx).1; omega
  rwa [List.getElem?_take_of_lt hlt] at hjx
theorem HeadsIn.take {Q : Nat → Prop} {w : World} {hs : List Value} {rs : List Rw} (h : HeadsIn Q w hs rs) (m : Nat) : HeadsIn Q w (hs.take m) (rs.take m) := by
  refine ⟨by rw [List.length_take, List.length_take, h.1], fun j x r h1 h2 => ?_⟩
  have hlt : j < m := by have := (List.getElem?_eq_some_iff.1 h1).1; simp at this; omega
  rw [List.getElem?_take_of_lt hlt] at h1 h2
  exact h.2 j x r h1 h2
end Go.Proofs.Ytcidijjbcebcbaa.TN
