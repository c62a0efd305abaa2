/-
  What the reference's Row, SameCols and Same return, for all rows, columns and tables.
  What the reference's Same returns, for every two tables.
  The contracts of Go's library that package pred calls, laid at this program's numbers.
  What a condition among nodes is, row by row; how its tests lie in memory.
  What the tests of package pred tell of a row.
  The tests of a comparison and of a part.
-/
import Derived.Test.YtcidijjbcebcbaaProg
import Derived.Test.YtcidijjbcebcbaaKH08
import Derived.Test.YtcidijjbcebcbaaKH09
import Derived.Test.YtcidijjbcebcbaaKH10
import Derived.Test.YtcidijjbcebcbaaKH11
import Derived.Shelf.Strings.Search3
namespace Go.Proofs.Ytcidijjbcebcbaa.TN
open Go.RowKit Go.Sort Go.Shelf

theorem regrown_cell {w : World} {a : Addr} {v : Value} (h : w.cell? a = some v) (d : Nat) (os : Array Obj) : (grow (redrawn w d) os).cell? a = some v :=
  ((below_regrown w d os).cell (block_lt_of_cell h)).trans h
theorem rcompare_is {x y : Vl} {c : Int} {w : World} (h : cmpL x y = c) : Calls Try.prog 34 #[x.val, y.val] w fun e w' => e = .returned (.int .i64 c) ∧ Below w.heap.size w w' := by rw [← h]; exact rcompare_any x.small y.small
set_option maxHeartbeats 1000000 in
theorem rrow_any {u v : Value} {r q : Rw} {w : World} (hu : RowAt w u r) (hv : RowAt w v q) :
    Calls Try.prog 43 #[u, v] w fun e w' => e = .returned (.int .i64 (cmpR r q)) ∧ Below w.heap.size w w' := by
  obtain ⟨p, cap, rfl, hcap, hmax, hx⟩ := hu
  obtain ⟨p', cap', rfl, hcap', hmax', hx'⟩ := hv
  unfold maxLen at hmax hmax'
  generalize hr : cmpR r q = res
  have HR := hid hr
  have HX := hid hx
  have HX' := hid hx'
  clear hr hx hx'
  generalize hn : r.length = n at *
  generalize hn' : q.length = m at *
  have HN := hid hn
  have HN' := hid hn'
  clear hn hn'
  go_enter Try.func43, Try.ntmps43
  go_wp2
  go_loopw [5] (fun i wr => ∃ k : Nat, k ≤ n ∧ k ≤ m ∧ i = .int .i64 k ∧ Hid (Below w.heap.size w wr) ∧ Hid (cmpR (r.drop k) (q.drop k) = res)) (fun i _ => n - (intOf i).toNat)
  case atStart => exact ⟨0, by omega, by omega, rfl, Below.refl _ _, HR.out⟩
  case round =>
    obtain ⟨k, hk, hk', rfl, HG, HD⟩ := hrel
    by_cases hlt : k < n
    · have hkr : k < r.length := by rw [HN.out]; exact hlt
      by_cases hlt' : k < m
      · have hkq : k < q.length := by rw [HN'.out]; exact hlt'
        obtain ⟨b, o, rfl, -, hj⟩ := HX.out (by intro e; subst e; simp at hkr)
        obtain ⟨b', o', rfl, -, hj'⟩ := HX'.out (by intro e; subst e; simp at hkq)
        obtain ⟨c0, c1, c2, c3, c4, c5, c6, c7, c8, c9, c10⟩ := val_cells ((hj k _ (get!_some hkr)).on HG.out)
        obtain ⟨d0, d1, d2, d3, d4, d5, d6, d7, d8, d9, d10⟩ := val_cells ((hj' k _ (get!_some hkq)).on HG.out)
        have HS := hid (cmpR_step hkr hkq)
        generalize r[k]! = x at c0 c1 c2 c3 c4 c5 c6 c7 c8 c9 c10 HS
        generalize q[k]! = y at d0 d1 d2 d3 d4 d5 d6 d7 d8 d9 d10 HS
        clear hj hj'
        replace c0 := regrown_cell c0
        replace c1 := regrown_cell c1
        replace c2 := regrown_cell c2
        replace c3 := regrown_cell c3
        replace c4 := regrown_cell c4
        replace c5 := regrown_cell c5
        replace c6 := regrown_cell c6
        replace c7 := regrown_cell c7
        replace c8 := regrown_cell c8
        replace c9 := regrown_cell c9
        replace c10 := regrown_cell c10
        replace d0 := regrown_cell d0
        replace d1 := regrown_cell d1
        replace d2 := regrown_cell d2
        replace d3 := regrown_cell d3
        replace d4 := regrown_cell d4
        replace d5 := regrown_cell d5
        replace d6 := regrown_cell d6
        replace d7 := regrown_cell d7
        replace d8 := regrown_cell d8
        replace d9 := regrown_cell d9
        replace d10 := regrown_cell d10
        by_cases hz : cmpL x y = 0
        · have HZ := hid hz
          clear hz
          go_wp2_with fail
          refine wp_region_quiet_below (by kernel_rfl) (by kernel_rfl) ?_
          repeat (go_big_quiet_step (first | (go_at_call 34; exact Calls.regrown_of (rcompare_is HZ.out))))
          refine wpQuiet_nil ?_
          intro _ hw'
          obtain ⟨⟨dq, osq⟩, hw''⟩ := hw'
          subst hw''
          go_wp2
          go_roundw
          case rel =>
            refine ⟨k + 1, by omega, by omega, by go_num, below_on HG.out (below_regrown wr dq osq), ?_⟩
            have := HS.out
            rw [HD.out, thn_zero (by simp [HZ.out])] at this
            exact this.symm
          case measure => simp [intOf]; omega
        · generalize hcv : cmpL x y = cv at *
          have hcz : (cv != 0) = true := by simpa using hz
          have HZ := hid hz
          have HCV := hid hcv
          clear hz hcv
          go_wp2_with fail
          refine wp_region_quiet_below (by kernel_rfl) (by kernel_rfl) ?_
          repeat (go_big_quiet_step (first | (go_at_call 34; exact Calls.regrown_of (rcompare_is HCV.out))))
          refine wpQuiet_nil ?_
          intro _ hw'
          obtain ⟨⟨dq, osq⟩, hw''⟩ := hw'
          subst hw''
          go_wp2
          go_ret
          refine ⟨ret_int ?_, below_on HG.out (below_regrown wr dq osq)⟩
          have := HS.out
          rw [HD.out, thn_ne hcz] at this
          exact this.symm
      · have hnl : decide ((k : Int) < (m : Int)) = false := by simp; omega
        have hkm : k = m := by omega
        subst hkm
        have hnm : ¬ (n : Int) < (k : Int) := by omega
        go_wp2
        go_ret
        exact ⟨ret_int ((cmpR_longer hkr (by rw [HN'.out]; omega)).symm.trans HD.out), HG.out⟩
    · have hks : k = n := by omega
      subst hks
      by_cases hlt' : k < m
      · go_wp2
        go_ret
        exact ⟨ret_int ((cmpR_shorter (by rw [HN.out]; omega) (by rw [HN'.out]; omega)).symm.trans HD.out), HG.out⟩
      · have hkm : k = m := by omega
        subst hkm
        go_wp2
        go_ret
        exact ⟨ret_int ((cmpR_ends (by rw [HN.out]; omega) (by rw [HN'.out]; omega)).symm.trans HD.out), HG.out⟩
theorem cols_ne {cs ds : List Cl} {k : Nat} (h : ¬ cs[k]! = ds[k]!) : ¬ cs = ds := fun e => h (by rw [e])
theorem cols_eq {cs ds : List Cl} (h1 : cs.length = ds.length) (h : ∀ k, k < cs.length → cs[k]! = ds[k]!) : cs = ds := by
  apply List.ext_getElem h1
  intro i hi hi'
  have := h i hi
  rw [List.getElem!_eq_getElem?_getD, List.getElem!_eq_getElem?_getD, List.getElem?_eq_getElem hi, List.getElem?_eq_getElem hi'] at this
  exact this
set_option maxHeartbeats 1000000 in
theorem samecols_any {u v : Value} {cs ds : List Cl} {w : World} (hu : ColsAt w u cs) (hv : ColsAt w v ds) :
    Calls Try.prog 41 #[u, v] w fun e w' => e = .returned (.bool (decide (cs = ds))) ∧ Below w.heap.size w w' := by
  obtain ⟨p, cap, rfl, hcap, hmax, hx⟩ := hu
  obtain ⟨p', cap', rfl, hcap', hmax', hx'⟩ := hv
  unfold maxLen at hmax hmax'
  generalize hr : decide (cs = ds) = res
  have HR := hid hr
  have HX := hid hx
  have HX' := hid hx'
  clear hr hx hx'
  generalize hn : cs.length = n at *
  generalize hn' : ds.length = m at *
  have HN := hid hn
  have HN' := hid hn'
  clear hn hn'
  by_cases hl : n = m
  · subst hl
    go_enter Try.func41, Try.ntmps41
    go_wp2
    go_loopw [5] (fun i wr => ∃ k : Nat, k ≤ n ∧ i = .int .i64 k ∧ Hid (Below w.heap.size w wr) ∧ Hid (∀ j, j < k → cs[j]! = ds[j]!)) (fun i _ => n - (intOf i).toNat)
    case atStart => exact ⟨0, by omega, rfl, Below.refl _ _, fun j h => absurd h (Nat.not_lt_zero _)⟩
    case round =>
      obtain ⟨k, hk, rfl, HB, HA⟩ := hrel
      by_cases hlt : k < n
      · have hkc : k < cs.length := by rw [HN.out]; exact hlt
        have hkd : k < ds.length := by rw [HN'.out]; exact hlt
        obtain ⟨b, o, rfl, -, hj⟩ := HX.out (by intro e; subst e; simp at hkc)
        obtain ⟨b', o', rfl, -, hj'⟩ := HX'.out (by intro e; subst e; simp at hkd)
        obtain ⟨c0, c1⟩ := col_cells ((hj k _ (get!_some hkc)).on HB.out)
        obtain ⟨d0, d1⟩ := col_cells ((hj' k _ (get!_some hkd)).on HB.out)
        have HNE := hid (cols_ne (cs := cs) (ds := ds) (k := k))
        have HSTEP : Hid (cs[k]! = ds[k]! → ∀ j, j < k + 1 → cs[j]! = ds[j]!) := fun e j hj => by
          by_cases h : j = k
          · subst h; exact e
          · exact HA.out j (by omega)
        generalize cs[k]! = x at c0 c1 HNE HSTEP
        generalize ds[k]! = y at d0 d1 HNE HSTEP
        clear hj hj'
        have hq : ∀ w : World, Sem.run Try.prog (binOp .neq 61 (.agg #[.string x.nm, .int .i64 x.kd]) (.agg #[.string y.nm, .int .i64 y.kd])) w = .ok (.bool (!eqC x y)) w := fun w => neqC.1 x y w
        cases hb : eqC x y with
        | true =>
          have HE := hid ((eqC_iff x y).1 hb)
          simp only [hb] at hq
          clear hb
          go_wp2_with fail
          go_quiet (fail)
          go_wp2
          go_roundw
          case rel => exact ⟨k + 1, by omega, by go_num, below_drewN HB.out _, HSTEP.out HE.out⟩
          case measure => simp [intOf]; omega
        | false =>
          have HE := hid (show ¬ x = y from fun e => by rw [(eqC_iff x y).2 e] at hb; cases hb)
          simp only [hb] at hq
          clear hb
          go_wp2_with fail
          go_quiet (fail)
          go_wp2
          go_ret
          exact ⟨ret_bool ((decide_eq_false (HNE.out HE.out)).symm.trans HR.out), below_drewN HB.out _⟩
      · have hks : k = n := by omega
        subst hks
        go_wp2
        go_ret
        exact ⟨ret_bool ((decide_eq_true (cols_eq (by rw [HN.out, HN'.out]) (by rw [HN.out]; exact HA.out))).symm.trans HR.out), HB.out⟩
  · have hne : ((n : Int) != (m : Int)) = true := by simp; omega
    go_enter Try.func41, Try.ntmps41
    go_wp2
    go_ret
    refine ⟨ret_bool ((decide_eq_false ?_).symm.trans HR.out), Below.refl _ _⟩
    intro e
    subst e
    exact hl (HN.out.symm.trans HN'.out)
end Go.Proofs.Ytcidijjbcebcbaa.TN
namespace Go.Proofs.Ytcidijjbcebcbaa.TN
open Go.RowKit Go.Sort Go.Shelf

theorem samecols_is {u v : Value} {r q : List Cl} {w : World} {c : Bool} (hu : ColsAt w u r) (hv : ColsAt w v q) (h : decide (r = q) = c) :
    Calls Try.prog 41 #[u, v] w fun e w' => e = .returned (.bool c) ∧ Below w.heap.size w w' := by rw [← h]; exact samecols_any hu hv
theorem rrow_is {u v : Value} {r q : Rw} {w : World} {c : Int} (hu : RowAt w u r) (hv : RowAt w v q) (h : cmpR r q = c) :
    Calls Try.prog 43 #[u, v] w fun e w' => e = .returned (.int .i64 c) ∧ Below w.heap.size w w' := by rw [← h]; exact rrow_any hu hv
set_option maxHeartbeats 1000000 in
theorem rsame_any {u v : Value} {cs ds : List Cl} {rs qs : List Rw} {w : World} (hu : TabAt w u cs rs) (hv : TabAt w v ds qs) :
    Calls Try.prog 23 #[u, v] w fun e w' => e = .returned (.bool (decide (cs = ds ∧ rs = qs))) ∧ Below w.heap.size w w' := by
  obtain ⟨c, r, rfl, hc, hs, ⟨p, cap, rfl, hcap, hmax, hx⟩, hh⟩ := hu
  obtain ⟨c', r', rfl, hc', hs', ⟨p', cap', rfl, hcap', hmax', hx'⟩, hh'⟩ := hv
  unfold maxLen at hmax hmax'
  generalize hn : hs.length = n at *
  generalize hn' : hs'.length = m at *
  have HN := hid hn
  have HN' := hid hn'
  clear hn hn'
  have HC := hid hc
  have HC' := hid hc'
  have HX := hid hx
  have HX' := hid hx'
  have HH := hid hh
  have HH' := hid hh'
  clear hc hc' hx hx' hh hh'
  have HB : Hid (Below w.heap.size w ((w.alloc (.cells #[c, .slice p n cap] 28)).alloc (.cells #[c', .slice p' m cap'] 28))) := ((Below.refl w.heap.size w).alloc (Nat.le_refl _) _).alloc (by simp) _
  have K0 := hid (block_on (alloc_block w (.cells #[c, .slice p n cap] 28)) ((Below.refl _ _).alloc (Nat.le_refl _) (.cells #[c', .slice p' m cap'] 28)))
  have K1 : Hid (((w.alloc (.cells #[c, .slice p n cap] 28)).alloc (.cells #[c', .slice p' m cap'] 28)).heap[w.heap.size + 1]? = some (.cells #[c', .slice p' m cap'] 28 (0, 0))) := by
    have h := alloc_block (w.alloc (.cells #[c, .slice p n cap] 28)) (.cells #[c', .slice p' m cap'] 28)
    rw [World.size_alloc] at h
    exact h
  cases hcd : decide (cs = ds) with
  | false =>
    have he : decide (cs = ds ∧ rs = qs) = false := decide_eq_false fun h => of_decide_eq_false hcd h.1
    rw [he]
    go_enter Try.func23, Try.ntmps23
    go_wp2_with (first | (go_at_call 41; refine (samecols_is (HC.out.on HB.out) (HC'.out.on HB.out) hcd).mono ?_; rintro e w1 ⟨rfl, hb1⟩))
    go_ret
    exact ⟨rfl, below_on HB.out hb1⟩
  | true =>
    have he : decide (cs = ds ∧ rs = qs) = decide (rs = qs) := by
      have := of_decide_eq_true hcd
      by_cases h : rs = qs <;> simp [this, h]
    rw [he]
    clear he
    generalize hr : decide (rs = qs) = res
    have HR := hid hr
    clear hr
    by_cases hl : n = m
    · subst hl
      go_enter Try.func23, Try.ntmps23
      go_wp2_with (first | (go_at_call 41; refine (samecols_is (HC.out.on HB.out) (HC'.out.on HB.out) hcd).mono ?_; rintro e w1 ⟨rfl, hb1⟩; have HB1 := hid (below_on HB.out hb1); have HK0 := hid (block_on K0.out hb1); have HK1 := hid (block_on K1.out hb1); have k0 := block_cell HK0.out; have k1 := block_cell HK1.out; clear hb1))
      go_loopw [5] (fun i wr => ∃ k : Nat, k ≤ n ∧ i = .int .i64 k ∧ Hid (Below w.heap.size w wr) ∧ Hid (wr.heap[w.heap.size]? = some (.cells #[c, .slice p n cap] 28 (0, 0))) ∧ Hid (wr.heap[w.heap.size + 1]? = some (.cells #[c', .slice p' n cap'] 28 (0, 0))) ∧ Hid (∀ j, j < k → rs[j]! = qs[j]!)) (fun i _ => n - (intOf i).toNat)
      case atStart => exact ⟨0, by omega, rfl, HB1.out, HK0.out, HK1.out, fun j h => absurd h (Nat.not_lt_zero _)⟩
      case round =>
        clear k0 k1 HK0 HK1
        obtain ⟨k, hk, rfl, HB2, HK0, HK1, HA⟩ := hrel
        by_cases hlt : k < n
        · have hkh : k < hs.length := by rw [HN.out]; exact hlt
          have hkr : k < rs.length := by rw [← HH.out.1]; exact hkh
          have hkh' : k < hs'.length := by rw [HN'.out]; exact hlt
          have hkr' : k < qs.length := by rw [← HH'.out.1]; exact hkh'
          obtain ⟨b, o, rfl, -, hj⟩ := HX.out (by intro e; subst e; simp at hkh)
          obtain ⟨b', o', rfl, -, hj'⟩ := HX'.out (by intro e; subst e; simp at hkh')
          have hd := head_cell (fun j x hjx => (hj j x hjx).on HB2.out) (get!_some hkh)
          have hd' := head_cell (fun j x hjx => (hj' j x hjx).on HB2.out) (get!_some hkh')
          have HRow := hid ((HH.out.2 k _ _ (get!_some hkh) (get!_some hkr)).on HB2.out)
          have HRow' := hid ((HH'.out.2 k _ _ (get!_some hkh') (get!_some hkr')).on HB2.out)
          generalize hs[k]! = hd0 at hd HRow
          generalize hs'[k]! = hd0' at hd' HRow'
          clear hj hj'
          have HNE := hid (rows_ne (rs := rs) (qs := qs) (k := k))
          have HSTEP : Hid (rs[k]! = qs[k]! → ∀ j, j < k + 1 → rs[j]! = qs[j]!) := fun e j hj => by
            by_cases h : j = k
            · subst h; exact e
            · exact HA.out j (by omega)
          generalize rs[k]! = r0 at HRow HNE HSTEP
          generalize qs[k]! = q0 at HRow' HNE HSTEP
          have k0 := block_cell HK0.out
          have k1 := block_cell HK1.out
          have kk0 : ∀ d os j, (grow (redrawn wr d) os).cell? ⟨w.heap.size, j, none⟩ = (#[c, .slice (some ⟨b, o, none⟩) n cap] : Array Value)[j]? := fun d os j => block_cell (block_on HK0.out (below_regrown wr d os)) j
          have kk1 : ∀ d os j, (grow (redrawn wr d) os).cell? ⟨w.heap.size + 1, j, none⟩ = (#[c', .slice (some ⟨b', o', none⟩) n cap'] : Array Value)[j]? := fun d os j => block_cell (block_on HK1.out (below_regrown wr d os)) j
          have hd2 := regrown_cell hd
          have hd2' := regrown_cell hd'
          have HRw : ∀ d os, Hid (RowAt (grow (redrawn wr d) os) hd0 r0) := fun d os => HRow.out.on (below_regrown wr d os)
          have HRw' : ∀ d os, Hid (RowAt (grow (redrawn wr d) os) hd0' q0) := fun d os => HRow'.out.on (below_regrown wr d os)
          clear hd hd'
          by_cases hz : cmpR r0 q0 = 0
          · have HZ := hid hz
            clear hz
            go_wp2_with fail
            refine wp_region_quiet_below (by kernel_rfl) (by kernel_rfl) ?_
            repeat (go_big_quiet_step (first | (go_at_call 43; exact Calls.regrown_of (rrow_is (HRw _ _).out (HRw' _ _).out HZ.out))))
            refine wpQuiet_nil ?_
            intro _ hw'
            obtain ⟨⟨dq, osq⟩, hw''⟩ := hw'
            subst hw''
            go_wp2
            go_roundw
            case rel => exact ⟨k + 1, by omega, by go_num, below_on HB2.out (below_regrown wr dq osq), block_on HK0.out (below_regrown wr dq osq), block_on HK1.out (below_regrown wr dq osq), HSTEP.out ((cmpR_zero _ _).1 HZ.out)⟩
            case measure => simp [intOf]; omega
          · generalize hcv : cmpR r0 q0 = cv at *
            have hcz : (cv != 0) = true := by simpa using hz
            have HZ := hid (show ¬ r0 = q0 from fun e => hz (hcv.symm.trans ((cmpR_zero _ _).2 e)))
            have HCV := hid hcv
            clear hz hcv
            go_wp2_with fail
            refine wp_region_quiet_below (by kernel_rfl) (by kernel_rfl) ?_
            repeat (go_big_quiet_step (first | (go_at_call 43; exact Calls.regrown_of (rrow_is (HRw _ _).out (HRw' _ _).out HCV.out))))
            refine wpQuiet_nil ?_
            intro _ hw'
            obtain ⟨⟨dq, osq⟩, hw''⟩ := hw'
            subst hw''
            go_wp2
            go_ret
            exact ⟨ret_bool ((decide_eq_false (HNE.out HZ.out)).symm.trans HR.out), below_on HB2.out (below_regrown wr dq osq)⟩
        · have hks : k = n := by omega
          subst hks
          have k0 := block_cell HK0.out
          go_wp2
          go_ret
          exact ⟨ret_bool ((decide_eq_true (rows_eq (by rw [← HH.out.1, ← HH'.out.1, HN.out, HN'.out]) (by rw [← HH.out.1, HN.out]; exact HA.out))).symm.trans HR.out), HB2.out⟩
    · have hne : ((n : Int) != (m : Int)) = true := by simp; omega
      go_enter Try.func23, Try.ntmps23
      go_wp2_with (first | (go_at_call 41; refine (samecols_is (HC.out.on HB.out) (HC'.out.on HB.out) hcd).mono ?_; rintro e w1 ⟨rfl, hb1⟩; have HB1 := hid (below_on HB.out hb1); have HK0 := hid (block_on K0.out hb1); have HK1 := hid (block_on K1.out hb1); have k0 := block_cell HK0.out; have k1 := block_cell HK1.out; clear hb1))
      go_ret
      refine ⟨ret_bool ((decide_eq_false ?_).symm.trans HR.out), HB1.out⟩
      intro e
      subst e
      apply hl
      rw [← HN.out, ← HN'.out, HH.out.1, HH'.out.1]
end Go.Proofs.Ytcidijjbcebcbaa.TN
namespace Go.Proofs
open Go.Shelf
def Try.lays144_ren : Go.Shelf.Ren := ⟨fun | 144 => 109 | 143 => 131 | 219 => 149 | 217 => 162 | 225 => 163 | 224 => 164 | 267 => 165 | 266 => 171 | 314 => 172 | n => n, fun | 9 => 9 | 4 => 4 | 3 => 3 | 5 => 5 | 46 => 151 | 146 => 179 | 51 => 167 | n => n, fun | 1 => 0 | n => n⟩
theorem Try.lays144 : Go.Proofs.Lays.n144 Try.prog Try.lays144_ren := {
  mixed := by kernel_rfl
  f143 := Try.func131.trans (congrArg some (by kernel_rfl))
  f144 := Try.func109.trans (congrArg some (by kernel_rfl))
  f217 := Try.func162.trans (congrArg some (by kernel_rfl))
  f219 := Try.func149.trans (congrArg some (by kernel_rfl))
  f224 := Try.func164.trans (congrArg some (by kernel_rfl))
  f225 := Try.func163.trans (congrArg some (by kernel_rfl))
  f266 := Try.func171.trans (congrArg some (by kernel_rfl))
  f267 := Try.func165.trans (congrArg some (by kernel_rfl))
  f314 := Try.func172.trans (congrArg some (by kernel_rfl))
  t3 := Try.underlying3
  a3 := Try.isAgg3
  z3 := Try.sizeOf3
  v3 := Try.zeroValue3
  t4 := Try.underlying4
  a4 := Try.isAgg4
  z4 := Try.sizeOf4
  v4 := Try.zeroValue4
  t5 := Try.underlying5
  a5 := Try.isAgg5
  z5 := Try.sizeOf5
  v5 := Try.zeroValue5
  t9 := Try.underlying9
  a9 := Try.isAgg9
  z9 := Try.sizeOf9
  v9 := Try.zeroValue9
  t46 := Try.underlying151
  a46 := Try.isAgg151
  z46 := Try.sizeOf151
  v46 := Try.zeroValue151
  t51 := Try.underlying167
  a51 := Try.isAgg167
  z51 := Try.sizeOf167
  v51 := Try.zeroValue167
  t146 := Try.underlying179
  a146 := Try.isAgg179
  z146 := Try.sizeOf179
  v146 := Try.zeroValue179
  g1 := by kernel_rfl }
open Go.RowKit Go.Lib in
theorem Try.strings_Contains_one (s : ByteArray) (c : UInt8) (w : World) :
    Calls Try.prog 109 #[.string s, .string ⟨#[c]⟩] w fun e w' => e = .returned (.bool (decide (0 ≤ Lib.indexByte s.data.toList c))) ∧ w' = w := Any.strings_Contains_one Try.lays144 s c w
open Go.RowKit Go.Lib in
theorem Try.strings_Contains (s sub : ByteArray) (m : Int) (w : World) (hs : s.size < 4294967281) (hm : w.cell? ⟨0, 0, none⟩ = some (.int .i64 m)) :
    Calls Try.prog 109 #[.string s, .string sub] w fun e w' => e = .returned (.bool (Lib.contains s.data.toList sub.data.toList)) ∧ w' = w := Any.strings_Contains Try.lays144 s sub m w hs hm
end Go.Proofs
namespace Go.Proofs.Ytcidijjbcebcbaa.PD
open Go.RowKit Go.Joins

def how1 (k : Int) : Nat := if k = 13 then 1 else if k = 11 ∨ k = 12 then 2 else 0
def ahead (l : List Int) (i : Nat) : Bool := l.all fun e => decide (0 ≤ e) && decide (e < (i : Int))
def bel (q : Nx) (i : Nat) : List Int := if q.np.l.length = how1 q.np.kind ∧ ahead q.np.l i = true then q.np.l else []
theorem ahead_mem {l : List Int} {i : Nat} (h : ahead l i = true) {e : Int} (he : e ∈ l) : 0 ≤ e ∧ e < (i : Int) := by
  have := List.all_eq_true.1 h e he
  simpa using this
theorem bel_mem {q : Nx} {i : Nat} {e : Int} (he : e ∈ bel q i) : 0 ≤ e ∧ e < (i : Int) := by
  unfold bel at he
  split at he
  · rename_i h; exact ahead_mem h.2 he
  · cases he
def valAt (cs : List TN.Cl) (row : TN.Rw) (s : List UInt8) : Option TN.Vl := if 0 ≤ TN.findC cs (St s) then row[(TN.findC cs (St s)).toNat]? else none
def cmpQ (q : Nx) (v : TN.Vl) : Bool := TN.holdsB q.np.n v.k q.np.vk (TN.cmpV v.k v.n v.s v.h0 v.h1 v.h2 v.h3 v.h4 v.h5 v.h6 v.h7 q.np.vk q.np.vn (St q.np.vs) q.h0 q.h1 q.h2 q.h3 q.h4 q.h5 q.h6 q.h7)
def hasQ (q : Nx) (v : TN.Vl) : Bool := decide (v.k = 2) && Lib.contains v.s.data.toList q.np.vs
def hsAt (hs : List Bool) (a : Int) : Bool := hs.getD a.toNat false
def tst (cs : List TN.Cl) (q : Nx) (i : Nat) (hs : List Bool) (row : TN.Rw) : Bool :=
  if q.np.kind = 14 then (match valAt cs row q.np.s with | some v => cmpQ q v | none => false)
  else if q.np.kind = 15 then (match valAt cs row q.np.s with | some v => hasQ q v | none => false)
  else match bel q i with
    | [a] => if q.np.kind = 13 then !hsAt hs a else false
    | [a, b] => if q.np.kind = 11 then hsAt hs a && hsAt hs b else if q.np.kind = 12 then hsAt hs a || hsAt hs b else false
    | _ => false
theorem tst_congr {cs : List TN.Cl} {q : Nx} {i : Nat} {hs hs' : List Bool} {row : TN.Rw} (h : ∀ a ∈ bel q i, hsAt hs a = hsAt hs' a) : tst cs q i hs row = tst cs q i hs' row := by
  unfold tst
  split
  · rfl
  · split
    · rfl
    · split
      · rename_i a e; rw [h a (by rw [e]; simp)]
      · rename_i a b e; rw [h a (by rw [e]; simp), h b (by rw [e]; simp)]
      · rfl
def oksA (cs : List TN.Cl) (row : TN.Rw) : List Nx → List Bool → List Bool
  | [], acc => acc
  | q :: r, acc => oksA cs row r (acc ++ [tst cs q acc.length acc row])
def oks (cs : List TN.Cl) (row : TN.Rw) (qs : List Nx) : List Bool := oksA cs row qs []
theorem oksA_len (cs : List TN.Cl) (row : TN.Rw) : ∀ (qs : List Nx) (acc : List Bool), (oksA cs row qs acc).length = acc.length + qs.length
  | [], acc => rfl
  | q :: r, acc => by
    show (oksA cs row r _).length = _
    rw [oksA_len cs row r, List.length_append, List.length_cons, List.length_cons, List.length_nil]; omega
theorem oks_len (cs : List TN.Cl) (row : TN.Rw) (qs : List Nx) : (oks cs row qs).length = qs.length := by
  unfold oks; rw [oksA_len]; simp
theorem oksA_pre (cs : List TN.Cl) (row : TN.Rw) : ∀ (qs : List Nx) (acc : List Bool) (j : Nat), j < acc.length → (oksA cs row qs acc)[j]? = acc[j]?
  | [], acc, j, _ => rfl
  | q :: r, acc, j, h => by
    show (oksA cs row r _)[j]? = _
    rw [oksA_pre cs row r _ j (by simp; omega), List.getElem?_append_left h]
theorem oksA_get (cs : List TN.Cl) (row : TN.Rw) : ∀ (qs : List Nx) (acc : List Bool) (j : Nat) (q : Nx), qs[j]? = some q → (oksA cs row qs acc)[acc.length + j]? = some (tst cs q (acc.length + j) (oksA cs row qs acc) row)
  | [], acc, j, q, h => by simp at h
  | x :: r, acc, 0, q, h => by
    simp at h; subst h
    show (oksA cs row r _)[acc.length]? = some (tst cs x acc.length (oksA cs row r _) row)
    rw [oksA_pre cs row r _ acc.length (by simp), List.getElem?_append_right (Nat.le_refl _), Nat.sub_self]
    show some _ = some _
    congr 1
    refine tst_congr (fun a ha => ?_)
    have := bel_mem ha
    unfold hsAt
    rw [List.getD_eq_getElem?_getD, List.getD_eq_getElem?_getD, oksA_pre cs row r _ a.toNat (by simp; omega), List.getElem?_append_left (by omega)]
  | x :: r, acc, j + 1, q, h => by
    have := oksA_get cs row r (acc ++ [tst cs x acc.length acc row]) j q (by simpa using h)
    rw [List.length_append, show acc.length + [tst cs x acc.length acc row].length + j = acc.length + (j + 1) by simp; omega] at this
    exact this
theorem oks_get {cs : List TN.Cl} {row : TN.Rw} {qs : List Nx} {j : Nat} {q : Nx} (h : qs[j]? = some q) : (oks cs row qs)[j]? = some (tst cs q j (oks cs row qs) row) := by
  have := oksA_get cs row qs [] j q h
  rw [List.length_nil, Nat.zero_add] at this
  exact this
def holdsX (cs : List TN.Cl) (qs : List Nx) (i : Int) (row : TN.Rw) : Bool := decide (0 ≤ i) && hsAt (oks cs row qs) i
theorem holdsX_out {cs : List TN.Cl} {qs : List Nx} {i : Int} {row : TN.Rw} (h : i < 0 ∨ (qs.length : Int) ≤ i) : holdsX cs qs i row = false := by
  unfold holdsX hsAt
  rcases h with h | h
  · rw [decide_eq_false (by omega)]; rfl
  · rw [List.getD_eq_getElem?_getD, List.getElem?_eq_none (by rw [oks_len]; omega)]; simp
/- The tests' values held, cell by cell. -/
def Hd (w : World) (hd : Nat) (hs : List Bool) : Prop := w.heap[hd]? = some (.cells (hs.map Value.bool).toArray 4 (0, 0))
theorem Hd.cell {w : World} {hd : Nat} {hs : List Bool} (h : Hd w hd hs) {a : Nat} (ha : a < hs.length) : w.cell? ⟨hd, a, none⟩ = some (.bool (hsAt hs a)) := by
  rw [block_cell h a, ← Array.getElem?_toList]
  simp only [List.getElem?_map, List.getElem?_eq_getElem ha, Option.map_some, hsAt, List.getD_eq_getElem?_getD, Int.toNat_natCast, Option.getD_some]
theorem Hd.on {w w' : World} {hd : Nat} {hs : List Bool} (h : Hd w hd hs) (hb : Below w.heap.size w w') : Hd w' hd hs := block_on h hb
theorem Hd.set {w : World} {hd : Nat} {hs : List Bool} (h : Hd w hd hs) (a : Nat) (b : Bool) : Hd (w.setCell ⟨hd, a, none⟩ (.bool b)) hd (hs.set a b) := by
  have := block_set h a (.bool b)
  unfold Hd
  rw [this]
  congr 2
  rw [List.map_set, ← List.setIfInBounds_toArray]
abbrev slB (hd n : Nat) : Value := .slice (some ⟨hd, 0, none⟩) n n
/- Blocks that may turn: those of the tests' values, of the steps and of their variable. -/
def TyOk (w : World) (T : Nat → Prop) (hd : Nat) : Prop := ∀ k, T k → hd ≤ k ∧ ∀ c t fz, w.heap[k]? = some (.cells c t fz) → t = 4 ∨ t = 114 ∨ t = 117 ∨ t = 78
theorem blk_kp {w w' : World} {T : Nat → Prop} {hd b t : Nat} {c : Array Value} {fz : Nat × Nat} (hk : Kp T w w') (hT : TyOk w T hd) (h : w.heap[b]? = some (.cells c t fz)) (ht : t ≠ 4 ∧ t ≠ 114 ∧ t ≠ 117 ∧ t ≠ 78) : w'.heap[b]? = some (.cells c t fz) :=
  hk.blk h (fun hb => by
    rcases (hT b hb).2 _ _ _ h with e | e | e | e
    · exact ht.1 e
    · exact ht.2.1 e
    · exact ht.2.2.1 e
    · exact ht.2.2.2 e)
def TyS (w : World) (T : Nat → Prop) (hd : Nat) : Prop := ∀ k, T k → hd ≤ k ∧ ∀ c t fz, w.heap[k]? = some (.cells c t fz) → t = 4 ∨ t = 114 ∨ t = 117
theorem TyS.ok {w : World} {T : Nat → Prop} {hd : Nat} (h : TyS w T hd) : TyOk w T hd := fun k hk => ⟨(h k hk).1, fun c t fz hc => ((h k hk).2 c t fz hc).imp id (fun e => e.imp id .inl)⟩
theorem TyS.blk {w w' : World} {T : Nat → Prop} {hd b t : Nat} {c : Array Value} {fz : Nat × Nat} (hT : TyS w T hd) (hk : Kp T w w') (h : w.heap[b]? = some (.cells c t fz)) (ht : t ≠ 4 ∧ t ≠ 114 ∧ t ≠ 117) : w'.heap[b]? = some (.cells c t fz) :=
  hk.blk h (fun hb => by
    rcases (hT b hb).2 _ _ _ h with e | e | e
    · exact ht.1 e
    · exact ht.2.1 e
    · exact ht.2.2 e)
theorem TyS.no (w : World) (hd : Nat) : TyS w (fun _ => False) hd := fun _ h => h.elim
theorem TyS.hd {w : World} {hd : Nat} {hs : List Bool} (h : Hd w hd hs) : TyS w (fun k => k = hd) hd := fun k e => ⟨by omega, fun c t fz hc => by subst e; rw [h] at hc; cases hc; exact .inl rfl⟩
/- A node's test, as it lies in memory: what it tells of a row. -/
inductive Tst (hd n : Nat) (cs : List TN.Cl) (q : Nx) (i : Nat) (w : World) : Value → Prop
  | never (h : ∀ hs row, tst cs q i hs row = false) : Tst hd n cs q i w (.func (.func 75) #[] #[])
  | cmp (cb fb nb : Nat) (hk : q.np.kind = 14) (h2 : w.heap[cb]? = some (.cells #[.int .i64 (TN.findC cs (St q.np.s))] 3 (0, 0))) (h3 : w.heap[fb]? = some (.cells #[.func (.func 106) #[] #[dp nb]] 101 (0, 0))) (h4 : w.heap[nb]? = some (.cells q.cells.toArray 51 (0, 0))) : Tst hd n cs q i w (.func (.func 130) #[] #[dp cb, dp fb])
  | has (cb fb nb : Nat) (hk : q.np.kind = 15) (h2 : w.heap[cb]? = some (.cells #[.int .i64 (TN.findC cs (St q.np.s))] 3 (0, 0))) (h3 : w.heap[fb]? = some (.cells #[.func (.func 108) #[] #[dp nb]] 101 (0, 0))) (h4 : w.heap[nb]? = some (.cells q.cells.toArray 51 (0, 0))) : Tst hd n cs q i w (.func (.func 130) #[] #[dp cb, dp fb])
  | not (hb lb a : Nat) (hk : q.np.kind = 13) (h1 : a < n) (h2 : w.heap[hb]? = some (.cells #[slB hd n] 80 (0, 0))) (h3 : w.heap[lb]? = some (.cells #[q.lv] 47 (0, 0))) (h4 : SlAt (fun b => b < hd) int1 1 w q.lv [(a : Int)]) (h5 : bel q i = [(a : Int)]) : Tst hd n cs q i w (.func (.func 110) #[] #[dp hb, dp lb])
  | and (hb lb a b : Nat) (hk : q.np.kind = 11) (h1 : a < n ∧ b < n) (h2 : w.heap[hb]? = some (.cells #[slB hd n] 80 (0, 0))) (h3 : w.heap[lb]? = some (.cells #[q.lv] 47 (0, 0))) (h4 : SlAt (fun b => b < hd) int1 1 w q.lv [(a : Int), (b : Int)]) (h5 : bel q i = [(a : Int), (b : Int)]) : Tst hd n cs q i w (.func (.func 111) #[] #[dp hb, dp lb])
  | or (hb lb a b : Nat) (hk : q.np.kind = 12) (h1 : a < n ∧ b < n) (h2 : w.heap[hb]? = some (.cells #[slB hd n] 80 (0, 0))) (h3 : w.heap[lb]? = some (.cells #[q.lv] 47 (0, 0))) (h4 : SlAt (fun b => b < hd) int1 1 w q.lv [(a : Int), (b : Int)]) (h5 : bel q i = [(a : Int), (b : Int)]) : Tst hd n cs q i w (.func (.func 112) #[] #[dp hb, dp lb])
theorem Tst.kp {hd n : Nat} {cs : List TN.Cl} {q : Nx} {i : Nat} {w w' : World} {tv : Value} {T : Nat → Prop} (h : Tst hd n cs q i w tv) (hk : Kp T w w') (hT : TyOk w T hd) : Tst hd n cs q i w' tv := by
  have hl : ∀ b, b < hd → ¬ T b := fun b hb hb' => by have := (hT b hb').1; omega
  cases h with
  | never h => exact .never h
  | cmp cb fb nb hq h2 h3 h4 => exact .cmp cb fb nb hq (blk_kp hk hT h2 (by decide)) (blk_kp hk hT h3 (by decide)) (blk_kp hk hT h4 (by decide))
  | has cb fb nb hq h2 h3 h4 => exact .has cb fb nb hq (blk_kp hk hT h2 (by decide)) (blk_kp hk hT h3 (by decide)) (blk_kp hk hT h4 (by decide))
  | not hb lb a hq h1 h2 h3 h4 h5 => exact .not hb lb a hq h1 (blk_kp hk hT h2 (by decide)) (blk_kp hk hT h3 (by decide)) (h4.kp hk hl) h5
  | and hb lb a b hq h1 h2 h3 h4 h5 => exact .and hb lb a b hq h1 (blk_kp hk hT h2 (by decide)) (blk_kp hk hT h3 (by decide)) (h4.kp hk hl) h5
  | or hb lb a b hq h1 h2 h3 h4 h5 => exact .or hb lb a b hq h1 (blk_kp hk hT h2 (by decide)) (blk_kp hk hT h3 (by decide)) (h4.kp hk hl) h5
end Go.Proofs.Ytcidijjbcebcbaa.PD
namespace Go.Proofs.Ytcidijjbcebcbaa.PD
open Go.RowKit Go.Joins

def Mx (w : World) : Prop := ∃ m, w.cell? ⟨0, 0, none⟩ = some (.int .i64 m)
theorem Mx.on {w w' : World} (h : Mx w) (hb : Below w.heap.size w w') : Mx w' := by
  obtain ⟨m, hm⟩ := h
  exact ⟨m, (hb.cell (p := ⟨_, 0, none⟩) (block_lt_of_cell hm)).trans hm⟩
def Rsz (row : TN.Rw) : Prop := ∀ v ∈ row, v.s.size < 4294967281
theorem slAt_pair {Q : Nat → Prop} {w : World} {v : Value} {l : List Int} (h : SlAt Q int1 1 w v l) {j : Nat} {a : Int} (ha : l[j]? = some a) : ∃ b o c, v = .slice (some ⟨b, o, none⟩) l.length c ∧ l.length ≤ c ∧ c ≤ maxLen ∧ w.cell? ⟨b, o + j, none⟩ = some (.int .i64 a) := by
  obtain ⟨p, c, rfl, h1, h2⟩ := h.form
  obtain ⟨b, o, rfl, -, hc⟩ := h.at ha
  have := hc 0 _ rfl
  rw [Nat.mul_one] at this
  exact ⟨b, o, c, rfl, h1, h2, this⟩
theorem never_any (rv : Value) (w : World) : Calls Try.prog 75 #[rv] w fun e w' => e = .returned (.bool false) ∧ w' = w := by
  go_enter Try.func75, Try.ntmps75
  go_wp2_with fail
  go_ret
  exact ⟨rfl, rfl⟩
set_option maxRecDepth 100000 in
set_option maxHeartbeats 1000000 in
theorem t3_any {hb lb hd a : Nat} {q : Nx} {hs : List Bool} {w : World} (rv : Value) (h2 : w.cell? ⟨hb, 0, none⟩ = some (slB hd hs.length)) (h3 : w.cell? ⟨lb, 0, none⟩ = some q.lv) (h4 : SlAt (fun b => b < hd) int1 1 w q.lv [(a : Int)]) (hH : Hd w hd hs) (ha : a < hs.length) : Calls Try.prog 110 #[rv, dp hb, dp lb] w fun e w' => e = .returned (.bool (!hsAt hs a)) ∧ Below w.heap.size w w' := by
  obtain ⟨b, o, c, e, hc1, hc2, hc⟩ := slAt_pair h4 (j := 0) rfl
  rw [e] at h3
  rw [Nat.add_zero] at hc
  have hx := hH.cell ha
  have ha' : (a : Int) < hs.length := by omega
  have ha0 : (0 : Int) ≤ a := by omega
  generalize hs.length = n at *
  simp only [List.length_cons, List.length_nil] at hc1 h3
  clear h4 e hH
  go_enter Try.func110, Try.ntmps110
  go_upto_region 1 with fail
  go_quiet (fail)
  go_wp2_with fail
  go_ret
  exact ⟨rfl, below_drewN (Below.refl _ _) _⟩
theorem slAt_two {Q : Nat → Prop} {w : World} {v : Value} {a b : Int} (h : SlAt Q int1 1 w v [a, b]) : ∃ g o c, v = .slice (some ⟨g, o, none⟩) 2 c ∧ 2 ≤ c ∧ c ≤ maxLen ∧ w.cell? ⟨g, o, none⟩ = some (.int .i64 a) ∧ w.cell? ⟨g, o + 1, none⟩ = some (.int .i64 b) := by
  obtain ⟨p, c, rfl, h1, h2⟩ := h.form
  obtain ⟨g, o, rfl, -, hc⟩ := h.at (j := 0) rfl
  obtain ⟨g', o', e', -, hc'⟩ := h.at (j := 1) rfl
  cases e'
  exact ⟨g, o, c, rfl, h1, h2, by have := hc 0 _ rfl; simpa using this, by have := hc' 0 _ rfl; simpa using this⟩
set_option maxRecDepth 100000 in
set_option maxHeartbeats 2000000 in
theorem t4_any {hb lb hd a b : Nat} {q : Nx} {hs : List Bool} {w : World} (rv : Value) (h2 : w.cell? ⟨hb, 0, none⟩ = some (slB hd hs.length)) (h3 : w.cell? ⟨lb, 0, none⟩ = some q.lv) (h4 : SlAt (fun b => b < hd) int1 1 w q.lv [(a : Int), (b : Int)]) (hH : Hd w hd hs) (ha : a < hs.length) (hb' : b < hs.length) : Calls Try.prog 111 #[rv, dp hb, dp lb] w fun e w' => e = .returned (.bool (hsAt hs a && hsAt hs b)) ∧ Below w.heap.size w w' := by
  obtain ⟨g, o, c, e, hc1, hc2, hca, hcb⟩ := slAt_two h4
  rw [e] at h3
  have hxa := hH.cell ha
  have hxb := hH.cell hb'
  have ha' : (a : Int) < hs.length := by omega
  have hb'' : (b : Int) < hs.length := by omega
  have ha0 : (0 : Int) ≤ a := by omega
  have hb0 : (0 : Int) ≤ b := by omega
  generalize hs.length = n at *
  clear h4 e hH ha hb'
  generalize hsAt hs a = x at *
  generalize hsAt hs b = y at *
  cases x with
  | true =>
    go_enter Try.func111, Try.ntmps111
    go_upto_region 1 with fail
    go_quiet (fail)
    go_wp2_with fail
    go_ret
    exact ⟨rfl, below_drewN (Below.refl _ _) _⟩
  | false =>
    go_enter Try.func111, Try.ntmps111
    go_upto_region 1 with fail
    go_quiet (fail)
    go_wp2_with fail
    go_ret
    exact ⟨rfl, below_drewN (Below.refl _ _) _⟩
set_option maxRecDepth 100000 in
set_option maxHeartbeats 2000000 in
theorem t5_any {hb lb hd a b : Nat} {q : Nx} {hs : List Bool} {w : World} (rv : Value) (h2 : w.cell? ⟨hb, 0, none⟩ = some (slB hd hs.length)) (h3 : w.cell? ⟨lb, 0, none⟩ = some q.lv) (h4 : SlAt (fun b => b < hd) int1 1 w q.lv [(a : Int), (b : Int)]) (hH : Hd w hd hs) (ha : a < hs.length) (hb' : b < hs.length) : Calls Try.prog 112 #[rv, dp hb, dp lb] w fun e w' => e = .returned (.bool (hsAt hs a || hsAt hs b)) ∧ Below w.heap.size w w' := by
  obtain ⟨g, o, c, e, hc1, hc2, hca, hcb⟩ := slAt_two h4
  rw [e] at h3
  have hxa := hH.cell ha
  have hxb := hH.cell hb'
  have ha' : (a : Int) < hs.length := by omega
  have hb'' : (b : Int) < hs.length := by omega
  have ha0 : (0 : Int) ≤ a := by omega
  have hb0 : (0 : Int) ≤ b := by omega
  generalize hs.length = n at *
  clear h4 e hH ha hb'
  generalize hsAt hs a = x at *
  generalize hsAt hs b = y at *
  cases x with
  | true =>
    go_enter Try.func112, Try.ntmps112
    go_upto_region 1 with fail
    go_quiet (fail)
    go_wp2_with fail
    go_ret
    exact ⟨rfl, below_drewN (Below.refl _ _) _⟩
  | false =>
    go_enter Try.func112, Try.ntmps112
    go_upto_region 1 with fail
    go_quiet (fail)
    go_wp2_with fail
    go_ret
    exact ⟨rfl, below_drewN (Below.refl _ _) _⟩
end Go.Proofs.Ytcidijjbcebcbaa.PD
namespace Go.Proofs.Ytcidijjbcebcbaa.PD
open Go.RowKit Go.Joins

structure NbC (w : World) (nb : Nat) (q : Nx) : Prop where
  c2 : w.cell? ⟨nb, 2, none⟩ = some (.int .i64 q.np.n)
  c5 : w.cell? ⟨nb, 5, none⟩ = some (.int .i64 q.np.vk)
  c6 : w.cell? ⟨nb, 6, none⟩ = some (.int .i64 q.np.vn)
  c7 : w.cell? ⟨nb, 7, none⟩ = some (.string (St q.np.vs))
  c8 : w.cell? ⟨nb, 8, none⟩ = some (.int .i64 q.h0)
  c9 : w.cell? ⟨nb, 9, none⟩ = some (.int .i64 q.h1)
  c10 : w.cell? ⟨nb, 10, none⟩ = some (.int .i64 q.h2)
  c11 : w.cell? ⟨nb, 11, none⟩ = some (.int .i64 q.h3)
  c12 : w.cell? ⟨nb, 12, none⟩ = some (.int .i64 q.h4)
  c13 : w.cell? ⟨nb, 13, none⟩ = some (.int .i64 q.h5)
  c14 : w.cell? ⟨nb, 14, none⟩ = some (.int .i64 q.h6)
  c15 : w.cell? ⟨nb, 15, none⟩ = some (.int .i64 q.h7)
theorem nbC {w : World} {nb : Nat} {q : Nx} (h : w.heap[nb]? = some (.cells q.cells.toArray 51 (0, 0))) : NbC w nb q :=
  ⟨block_cell h 2, block_cell h 5, block_cell h 6, block_cell h 7, block_cell h 8, block_cell h 9, block_cell h 10, block_cell h 11, block_cell h 12, block_cell h 13, block_cell h 14, block_cell h 15⟩
set_option maxRecDepth 100000 in
set_option maxHeartbeats 2000000 in
theorem t1_any {nb : Nat} {q : Nx} {w : World} (v : TN.Vl) (h4 : w.heap[nb]? = some (.cells q.cells.toArray 51 (0, 0))) : Calls Try.prog 106 #[v.val, dp nb] w fun e w' => e = .returned (.bool (cmpQ q v)) ∧ Below w.heap.size w w' := by
  have hl := lt_of_block h4
  have hne : nb ≠ w.heap.size := by omega
  obtain ⟨c2, c5, c6, c7, c8, c9, c10, c11, c12, c13, c14, c15⟩ := nbC h4
  have HC := hid (rfl : cmpQ q v = cmpQ q v)
  have HH : Hid (∀ W, Calls Try.prog 107 #[.int .i64 q.np.n, v.val, TN.V q.np.vk q.np.vn (St q.np.vs) q.h0 q.h1 q.h2 q.h3 q.h4 q.h5 q.h6 q.h7] W fun e w' => e = .returned (.bool (cmpQ q v)) ∧ Below W.heap.size W w') := fun W => TN.holds_any
  generalize cmpQ q v = r at *
  obtain ⟨np, g0, g1, g2, g3, g4, g5, g6, g7, lv, nv, gv⟩ := q
  obtain ⟨k, n, s, a0, a1, a2, a3, a4, a5, a6, a7, sm⟩ := v
  simp only at *
  clear h4
  go_enter Try.func106, Try.ntmps106
  go_wp2_with (go_at_call 107; refine (HH.out _).mono ?_; rintro e w1 ⟨rfl, hb⟩; have HB := hid hb; clear hb)
  go_ret
  exact ⟨rfl, TN.below_on ((Below.refl _ w).alloc (Nat.le_refl _) _) HB.out⟩
theorem vl_eta (v : TN.Vl) : v.val = .agg v.cells.toArray := rfl
set_option maxRecDepth 100000 in
set_option maxHeartbeats 2000000 in
theorem t2_any {nb : Nat} {q : Nx} {w : World} (v : TN.Vl) (h4 : w.heap[nb]? = some (.cells q.cells.toArray 51 (0, 0))) (hM : Mx w) (hv : v.s.size < 4294967281) : Calls Try.prog 108 #[v.val, dp nb] w fun e w' => e = .returned (.bool (hasQ q v)) ∧ Below w.heap.size w w' := by
  have hl := lt_of_block h4
  have hne : nb ≠ w.heap.size := by omega
  obtain ⟨c2, c5, c6, c7, c8, c9, c10, c11, c12, c13, c14, c15⟩ := nbC h4
  have HH : Hid (∀ W, Mx W → Calls Try.prog 109 #[.string v.s, .string (St q.np.vs)] W fun e w' => e = .returned (.bool (Lib.contains v.s.data.toList q.np.vs)) ∧ w' = W) := fun W ⟨m, hm⟩ => Try.strings_Contains v.s (St q.np.vs) m W hv hm
  have HM := hid (hM.on ((Below.refl _ w).alloc (Nat.le_refl _) (.cells v.cells.toArray 39)))
  unfold hasQ
  generalize Lib.contains v.s.data.toList q.np.vs = r at *
  clear hM
  obtain ⟨np, g0, g1, g2, g3, g4, g5, g6, g7, lv, nv, gv⟩ := q
  obtain ⟨k, n, s, a0, a1, a2, a3, a4, a5, a6, a7, sm⟩ := v
  simp only at *
  clear h4 hv
  by_cases hk : k = 2
  · subst hk
    go_enter Try.func108, Try.ntmps108
    go_wp2_with (go_at_call 109; refine (HH.out _ HM.out).mono ?_; rintro e w1 ⟨rfl, he⟩; replace he := he.symm; subst he)
    go_ret
    exact ⟨by simp, (Below.refl _ w).alloc (Nat.le_refl _) _⟩
  · have kb : (k == 2) = false := by simp [hk]
    have hd : decide (k = 2) = false := by simp [hk]
    rw [hd]
    clear hk
    go_enter Try.func108, Try.ntmps108
    go_wp2_with fail
    go_ret
    exact ⟨rfl, (Below.refl _ w).alloc (Nat.le_refl _) _⟩
end Go.Proofs.Ytcidijjbcebcbaa.PD
