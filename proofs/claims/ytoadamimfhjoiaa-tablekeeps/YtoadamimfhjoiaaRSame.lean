/-
  What the reference's Same returns, for every two tables.
-/
import Derived.Test.YtoadamimfhjoiaaRRow
namespace Go.Proofs.Ytoadamimfhjoiaa
open Go.RowKit Go.Sort Go.Shelf

theorem samecols_is {u v : Value} {r q : List Cl} {w : World} {c : Bool} (hu : ColsAt w u r) (hv : ColsAt w v q) (h : decide (r = q) = c) :
    Calls Try.prog 39 #[u, v] w fun e w' => e = .returned (.bool c) ∧ Below w.heap.size w w' := by rw [← h]; exact samecols_any hu hv
theorem rrow_is {u v : Value} {r q : Rw} {w : World} {c : Int} (hu : RowAt w u r) (hv : RowAt w v q) (h : cmpR r q = c) :
    Calls Try.prog 40 #[u, v] w fun e w' => e = .returned (.int .i64 c) ∧ Below w.heap.size w w' := by rw [← h]; exact rrow_any hu hv
set_option maxHeartbeats 1000000 in
theorem rsame_any {u v : Value} {cs ds : List Cl} {rs qs : List Rw} {w : World} (hu : TabAt w u cs rs) (hv : TabAt w v ds qs) :
    Calls Try.prog 20 #[u, v] w fun e w' => e = .returned (.bool (decide (cs = ds ∧ rs = qs))) ∧ Below w.heap.size w w' := by
  obtain ⟨c, r, rfl, hc, hs, ⟨p, cap, rfl, hcap, hmax, hx⟩, hh⟩ := hu
  obtain ⟨c', r', rfl, hc', hs', ⟨p', cap', rfl, hcap', hmax', hx'⟩, hh'⟩ := hv
  unfold maxLen at hmax hmax'
  generalize hn : hs.length = n at *
  generalize hn' : hs'.length = m at *
  have HN := hid hn
  have HN' := hid hn'
  clear hn hn'
  have HC := hid hc
  have HC' := hid hc'
  have HX := hid hx
  have HX' := hid hx'
  have HH := hid hh
  have HH' := hid hh'
  clear hc hc' hx hx' hh hh'
  have HB : Hid (Below w.heap.size w ((w.alloc (.cells #[c, .slice p n cap] 25)).alloc (.cells #[c', .slice p' m cap'] 25))) := ((Below.refl w.heap.size w).alloc (Nat.le_refl _) _).alloc (by simp) _
  have K0 := hid (block_on (alloc_block w (.cells #[c, .slice p n cap] 25)) ((Below.refl _ _).alloc (Nat.le_refl _) (.cells #[c', .slice p' m cap'] 25)))
  have K1 : Hid (((w.alloc (.cells #[c, .slice p n cap] 25)).alloc (.cells #[c', .slice p' m cap'] 25)).heap[w.heap.size + 1]? = some (.cells #[c', .slice p' m cap'] 25 (0, 0))) := by
    have h := alloc_block (w.alloc (.cells #[c, .slice p n cap] 25)) (.cells #[c', .slice p' m cap'] 25)
    rw [World.size_alloc] at h
    exact h
  cases hcd : decide (cs = ds) with
  | false =>
    have he : decide (cs = ds ∧ rs = qs) = false := decide_eq_false fun h => of_decide_eq_false hcd h.1
    rw [he]
    go_enter Try.func20, Try.ntmps20
    go_wp2_with (first | (go_at_call 39; refine (samecols_is (HC.out.on HB.out) (HC'.out.on HB.out) hcd).mono ?_; rintro e w1 ⟨rfl, hb1⟩))
    go_ret
    exact ⟨rfl, below_on HB.out hb1⟩
  | true =>
    have he : decide (cs = ds ∧ rs = qs) = decide (rs = qs) := by
      have := of_decide_eq_true hcd
      by_cases h : rs = qs <;> simp [this, h]
    rw [he]
    clear he
    generalize hr : decide (rs = qs) = res
    have HR := hid hr
    clear hr
    by_cases hl : n = m
    · subst hl
      go_enter Try.func20, Try.ntmps20
      go_wp2_with (first | (go_at_call 39; refine (samecols_is (HC.out.on HB.out) (HC'.out.on HB.out) hcd).mono ?_; rintro e w1 ⟨rfl, hb1⟩; have HB1 := hid (below_on HB.out hb1); have HK0 := hid (block_on K0.out hb1); have HK1 := hid (block_on K1.out hb1); have k0 := block_cell HK0.out; have k1 := block_cell HK1.out; clear hb1))
      go_loopw [5] (fun i wr => ∃ k : Nat, k ≤ n ∧ i = .int .i64 k ∧ Hid (Below w.heap.size w wr) ∧ Hid (wr.heap[w.heap.size]? = some (.cells #[c, .slice p n cap] 25 (0, 0))) ∧ Hid (wr.heap[w.heap.size + 1]? = some (.cells #[c', .slice p' n cap'] 25 (0, 0))) ∧ Hid (∀ j, j < k → rs[j]! = qs[j]!)) (fun i _ => n - (intOf i).toNat)
      case atStart => exact ⟨0, by omega, rfl, HB1.out, HK0.out, HK1.out, fun j h => absurd h (Nat.not_lt_zero _)⟩
      case round =>
        clear k0 k1 HK0 HK1
        obtain ⟨k, hk, rfl, HB2, HK0, HK1, HA⟩ := hrel
        by_cases hlt : k < n
        · have hkh : k < hs.length := by rw [HN.out]; exact hlt
          have hkr : k < rs.length := by rw [← HH.out.1]; exact hkh
          have hkh' : k < hs'.length := by rw [HN'.out]; exact hlt
          have hkr' : k < qs.length := by rw [← HH'.out.1]; exact hkh'
          obtain ⟨b, o, rfl, -, hj⟩ := HX.out (by intro e; subst e; simp at hkh)
          obtain ⟨b', o', rfl, -, hj'⟩ := HX'.out (by intro e; subst e; simp at hkh')
          have hd := head_cell (fun j x hjx => (hj j x hjx).on HB2.out) (get!_some hkh)
          have hd' := head_cell (fun j x hjx => (hj' j x hjx).on HB2.out) (get!_some hkh')
          have HRow := hid ((HH.out.2 k _ _ (get!_some hkh) (get!_some hkr)).on HB2.out)
          have HRow' := hid ((HH'.out.2 k _ _ (get!_some hkh') (get!_some hkr')).on HB2.out)
          generalize hs[k]! = hd0 at hd HRow
          generalize hs'[k]! = hd0' at hd' HRow'
          clear hj hj'
          have HNE := hid (rows_ne (rs := rs) (qs := qs) (k := k))
          have HSTEP : Hid (rs[k]! = qs[k]! → ∀ j, j < k + 1 → rs[j]! = qs[j]!) := fun e j hj => by
            by_cases h : j = k
            · subst h; exact e
            · exact HA.out j (by omega)
          generalize rs[k]! = r0 at HRow HNE HSTEP
          generalize qs[k]! = q0 at HRow' HNE HSTEP
          have k0 := block_cell HK0.out
          have k1 := block_cell HK1.out
          have kk0 : ∀ d os j, (grow (redrawn wr d) os).cell? ⟨w.heap.size, j, none⟩ = (#[c, .slice (some ⟨b, o, none⟩) n cap] : Array Value)[j]? := fun d os j => block_cell (block_on HK0.out (below_regrown wr d os)) j
          have kk1 : ∀ d os j, (grow (redrawn wr d) os).cell? ⟨w.heap.size + 1, j, none⟩ = (#[c', .slice (some ⟨b', o', none⟩) n cap'] : Array Value)[j]? := fun d os j => block_cell (block_on HK1.out (below_regrown wr d os)) j
          have hd2 := regrown_cell hd
          have hd2' := regrown_cell hd'
          have HRw : ∀ d os, Hid (RowAt (grow (redrawn wr d) os) hd0 r0) := fun d os => HRow.out.on (below_regrown wr d os)
          have HRw' : ∀ d os, Hid (RowAt (grow (redrawn wr d) os) hd0' q0) := fun d os => HRow'.out.on (below_regrown wr d os)
          clear hd hd'
          by_cases hz : cmpR r0 q0 = 0
          · have HZ := hid hz
            clear hz
            go_wp2_with fail
            refine wp_region_quiet_below (by kernel_rfl) (by kernel_rfl) ?_
            repeat (go_big_quiet_step (first | (go_at_call 40; exact Calls.regrown_of (rrow_is (HRw _ _).out (HRw' _ _).out HZ.out))))
            refine wpQuiet_nil ?_
            intro _ hw'
            obtain ⟨⟨dq, osq⟩, hw''⟩ := hw'
            subst hw''
            go_wp2
            go_roundw
            case rel => exact ⟨k + 1, by omega, by go_num, below_on HB2.out (below_regrown wr dq osq), block_on HK0.out (below_regrown wr dq osq), block_on HK1.out (below_regrown wr dq osq), HSTEP.out ((cmpR_zero _ _).1 HZ.out)⟩
            case measure => simp [intOf]; omega
          · generalize hcv : cmpR r0 q0 = cv at *
            have hcz : (cv != 0) = true := by simpa using hz
            have HZ := hid (show ¬ r0 = q0 from fun e => hz (hcv.symm.trans ((cmpR_zero _ _).2 e)))
            have HCV := hid hcv
            clear hz hcv
            go_wp2_with fail
            refine wp_region_quiet_below (by kernel_rfl) (by kernel_rfl) ?_
            repeat (go_big_quiet_step (first | (go_at_call 40; exact Calls.regrown_of (rrow_is (HRw _ _).out (HRw' _ _).out HCV.out))))
            refine wpQuiet_nil ?_
            intro _ hw'
            obtain ⟨⟨dq, osq⟩, hw''⟩ := hw'
            subst hw''
            go_wp2
            go_ret
            exact ⟨ret_bool ((decide_eq_false (HNE.out HZ.out)).symm.trans HR.out), below_on HB2.out (below_regrown wr dq osq)⟩
        · have hks : k = n := by omega
          subst hks
          have k0 := block_cell HK0.out
          go_wp2
          go_ret
          exact ⟨ret_bool ((decide_eq_true (rows_eq (by rw [← HH.out.1, ← HH'.out.1, HN.out, HN'.out]) (by rw [← HH.out.1, HN.out]; exact HA.out))).symm.trans HR.out), HB2.out⟩
    · have hne : ((n : Int) != (m : Int)) = true := by simp; omega
      go_enter Try.func20, Try.ntmps20
      go_wp2_with (first | (go_at_call 39; refine (samecols_is (HC.out.on HB.out) (HC'.out.on HB.out) hcd).mono ?_; rintro e w1 ⟨rfl, hb1⟩; have HB1 := hid (below_on HB.out hb1); have HK0 := hid (block_on K0.out hb1); have HK1 := hid (block_on K1.out hb1); have k0 := block_cell HK0.out; have k1 := block_cell HK1.out; clear hb1))
      go_ret
      refine ⟨ret_bool ((decide_eq_false ?_).symm.trans HR.out), HB1.out⟩
      intro e
      subst e
      apply hl
      rw [← HN.out, ← HN'.out, HH.out.1, HH'.out.1]
end Go.Proofs.Ytoadamimfhjoiaa
