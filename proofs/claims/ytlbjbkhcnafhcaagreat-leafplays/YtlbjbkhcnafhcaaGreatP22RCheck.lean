/-
  What the reference's Cols and Check return, for all columns and tables.
  What the reference's Check returns, for every table.
  What schema.Fits returns, for all schemas and every point.
  What schema.Fits returns, for all schemas and every point: the walk.
  What the reference's Find, fits and Fits return, for all schemas and every point.
  What the reference's Fits, One and Check return, for all schemas and every point.
-/
import Derived.Test.YtlbjbkhcnafhcaaGreatP21STwice
import Derived.Deep.RegionHeldLaw
import Derived.Deep.RegionHeld3
namespace Go.Proofs.YtlbjbkhcnafhcaaGreat
open Go.RowKit Go.Sort Go.Shelf

theorem rname_is {s : ByteArray} {r : Bool} {w : World} (hs : s.size ≤ maxLen) (h : nameB s = r) : Calls Tryz.prog 92 #[.string s] w fun e w' => e = .returned (.bool r) ∧ w' = w := by rw [← h]; exact rname_any hs
theorem rfind_is {v : Value} {cs : List Cl} {nm : ByteArray} {r : Int} {w : World} (hv : ColsAt w v cs) (h : findC cs nm = r) : Calls Tryz.prog 93 #[v, .string nm] w fun e w' => e = .returned (.int .i64 r) ∧ Below w.heap.size w w' := by rw [← h]; exact rfind_any hv
theorem cell_on {w w' : World} {a : Addr} {v : Value} (h : w.cell? a = some v) (hb : Below w.heap.size w w') : w'.cell? a = some v :=
  (hb.cell (block_lt_of_cell h)).trans h
set_option maxHeartbeats 1000000 in
theorem rcols_any {v : Value} {cs : List Cl} {w : World} (hv : ColsAt w v cs) :
    Calls Tryz.prog 66 #[v] w fun e w' => e = .returned (.bool (colsB cs)) ∧ Below w.heap.size w w' := by
  have hv0 := hv
  obtain ⟨p, cap, rfl, hcap, hmax, hx⟩ := hv
  unfold maxLen at hmax
  generalize hr : colsB cs = r
  have HR := hid hr
  clear hr
  by_cases h1 : cs.length < 1
  · have g1 : (cs.length : Int) < 1 := by omega
    clear hx hv0
    go_enter Tryz.func66, Tryz.ntmps66
    go_wp2
    go_ret
    exact ⟨ret_bool ((colsB_no (by omega)).symm.trans HR.out), Below.refl _ _⟩
  · have g1 : ¬ (cs.length : Int) < 1 := by omega
    by_cases h2 : 16 < cs.length
    · have g2 : (16 : Int) < (cs.length : Int) := by omega
      clear hx hv0
      go_enter Tryz.func66, Tryz.ntmps66
      go_wp2
      go_ret
      exact ⟨ret_bool ((colsB_no (by omega)).symm.trans HR.out), Below.refl _ _⟩
    · have g2 : ¬ (16 : Int) < (cs.length : Int) := by omega
      obtain ⟨b, o, rfl, -, hj⟩ := hx (by intro e; subst e; simp at h1)
      have HV := hid hv0
      have HJ := hid hj
      clear hx hv0 hj
      generalize hn : cs.length = n at *
      have HN := hid hn
      clear hn
      go_enter Tryz.func66, Tryz.ntmps66
      go_wp2
      go_loopw [3] (fun i wr => ∃ k : Nat, k ≤ n ∧ i = .int .i64 k ∧ Hid (Below w.heap.size w wr) ∧ Hid (∀ j, j < k → colOk cs j cs[j]! = true)) (fun i _ => n - (intOf i).toNat)
      case atStart => exact ⟨0, by omega, rfl, Below.refl _ _, fun j h => absurd h (Nat.not_lt_zero _)⟩
      case round =>
        obtain ⟨k, hk, rfl, HB, HA⟩ := hrel
        by_cases hlt : k < n
        · have hkc : k < cs.length := by rw [HN.out]; exact hlt
          obtain ⟨hc0, hc1⟩ := col_cells ((HJ.out k _ (get!_some hkc)).on HB.out)
          generalize hcc : cs[k]! = c at hc0 hc1
          have HCC := hid hcc
          have HC1 := hid hc1
          clear hcc
          have HS := hid c.small
          cases hb : nameB c.nm with
          | false =>
            go_wp2_with (first | (go_at_call 92; refine (rname_is HS.out hb).mono ?_; rintro e w' ⟨rfl, rfl⟩))
            go_ret
            exact ⟨ret_bool ((colsB_bad hkc (by rw [HCC.out]; exact colOk_name hb)).symm.trans HR.out), HB.out⟩
          | true =>
            generalize hf : findC cs c.nm = f
            have HF := hid hf
            clear hf
            by_cases hfk : f = (k : Int)
            · subst hfk
              by_cases h3 : c.kd < 1
              · go_wp2_with (first | (go_at_call 92; refine (rname_is HS.out hb).mono ?_; rintro e w' ⟨rfl, rfl⟩) | (go_at_call 93; refine (rfind_is (HV.out.on HB.out) HF.out).mono ?_; rintro e w2 ⟨rfl, hbl⟩; have hc2 := cell_on HC1.out hbl; have HBL := hid hbl; clear hbl))
                go_ret
                exact ⟨ret_bool ((colsB_bad hkc (by rw [HCC.out]; exact colOk_kind (by omega))).symm.trans HR.out), below_on HB.out HBL.out⟩
              · by_cases h4 : 4 < c.kd
                · go_wp2_with (first | (go_at_call 92; refine (rname_is HS.out hb).mono ?_; rintro e w' ⟨rfl, rfl⟩) | (go_at_call 93; refine (rfind_is (HV.out.on HB.out) HF.out).mono ?_; rintro e w2 ⟨rfl, hbl⟩; have hc2 := cell_on HC1.out hbl; have HBL := hid hbl; clear hbl))
                  go_ret
                  exact ⟨ret_bool ((colsB_bad hkc (by rw [HCC.out]; exact colOk_kind (by omega))).symm.trans HR.out), below_on HB.out HBL.out⟩
                · go_wp2_with (first | (go_at_call 92; refine (rname_is HS.out hb).mono ?_; rintro e w' ⟨rfl, rfl⟩) | (go_at_call 93; refine (rfind_is (HV.out.on HB.out) HF.out).mono ?_; rintro e w2 ⟨rfl, hbl⟩; have hc2 := cell_on HC1.out hbl; have HBL := hid hbl; clear hbl))
                  go_roundw
                  case rel =>
                    refine ⟨k + 1, by omega, by go_num, below_on HB.out HBL.out, fun j h => ?_⟩
                    by_cases e : j = k
                    · subst e; rw [HCC.out]; exact colOk_yes hb HF.out (by omega) (by omega)
                    · exact HA.out j (by omega)
                  case measure => simp [intOf]; omega
            · have hne : (f != (k : Int)) = true := by simpa using hfk
              have HFK := hid hfk
              clear hfk
              go_wp2_with (first | (go_at_call 92; refine (rname_is HS.out hb).mono ?_; rintro e w' ⟨rfl, rfl⟩) | (go_at_call 93; refine (rfind_is (HV.out.on HB.out) HF.out).mono ?_; rintro e w2 ⟨rfl, hbl⟩; have hc2 := cell_on HC1.out hbl; have HBL := hid hbl; clear hbl))
              go_ret
              exact ⟨ret_bool ((colsB_bad hkc (by rw [HCC.out]; exact colOk_find (by rw [HF.out]; exact HFK.out))).symm.trans HR.out), below_on HB.out HBL.out⟩
        · have hks : k = n := by omega
          subst hks
          go_wp2
          go_ret
          exact ⟨ret_bool ((colsB_yes (by rw [HN.out]; omega) (by rw [HN.out]; exact HA.out)).symm.trans HR.out), HB.out⟩
end Go.Proofs.YtlbjbkhcnafhcaaGreat
namespace Go.Proofs.YtlbjbkhcnafhcaaGreat
open Go.RowKit Go.Sort Go.Shelf

theorem rcols_is {v : Value} {cs : List Cl} {r : Bool} {w : World} (hv : ColsAt w v cs) (h : colsB cs = r) : Calls Tryz.prog 66 #[v] w fun e w' => e = .returned (.bool r) ∧ Below w.heap.size w w' := by rw [← h]; exact rcols_any hv
theorem rvalid_is {x : Vl} {r : Bool} {w : World} (h : validL x = r) : Calls Tryz.prog 67 #[x.val] w fun e w' => e = .returned (.bool r) ∧ Below w.heap.size w w' := by rw [← h]; exact rvalid_any
set_option maxHeartbeats 2000000 in
theorem rcheck_any {v : Value} {cs : List Cl} {rs : List Rw} {w : World} (hv : TabAt w v cs rs) :
    Calls Tryz.prog 42 #[v] w fun e w' => e = .returned (.int .i64 (checkV cs rs)) ∧ Below w.heap.size w w' := by
  obtain ⟨c, rv, rfl, hc, hs, hrs, hh⟩ := hv
  have HC := hid hc
  obtain ⟨p, cap, rfl, hcap, hmax, hx⟩ := hrs
  obtain ⟨q, cap', rfl, hcap', hmax', hy⟩ := hc
  unfold maxLen at hmax hmax'
  generalize hr : checkV cs rs = res
  have HR := hid hr
  have HX := hid hx
  have HY := hid hy
  have HH := hid hh
  clear hr hx hh hy
  generalize hn : hs.length = n at *
  generalize hm : cs.length = m at *
  have HN := hid hn
  have HM := hid hm
  clear hn hm
  have HE : Hid (Below w.heap.size w (w.alloc (.cells #[.slice q m cap', .slice p n cap] 44))) := (Below.refl _ _).alloc (Nat.le_refl _) _
  have KB := hid (alloc_block w (.cells #[.slice q m cap', .slice p n cap] 44))
  cases hb : colsB cs with
  | false =>
    go_enter Tryz.func42, Tryz.ntmps42
    go_wp2_with (first | (go_at_call 66; refine (rcols_is (HC.out.on HE.out) hb).mono ?_; rintro e w1 ⟨rfl, hb1⟩))
    go_ret
    exact ⟨ret_int ((check_cols hb).symm.trans HR.out), below_on HE.out hb1⟩
  | true =>
    have HCB := hid hb
    go_enter Tryz.func42, Tryz.ntmps42
    go_wp2_with (first | (go_at_call 66; refine (rcols_is (HC.out.on HE.out) hb).mono ?_; rintro e w1 ⟨rfl, hb1⟩; have HB1 := hid (below_on HE.out hb1); have KB1 := hid (block_on KB.out hb1); have kb1 := block_cell KB1.out; clear hb1))
    clear kb1 hb HE KB
    go_loopw [3] (fun i wr => ∃ k : Nat, k ≤ n ∧ i = .int .i64 k ∧ Hid (Below w.heap.size w wr) ∧ Hid (wr.heap[w.heap.size]? = some (.cells #[.slice q m cap', .slice p n cap] 44 (0, 0))) ∧ Hid (∀ j, j < k → rowB cs rs[j]! = true)) (fun i _ => n - (intOf i).toNat)
    case atStart => exact ⟨0, by omega, rfl, HB1.out, KB1.out, fun j h => absurd h (Nat.not_lt_zero _)⟩
    case round =>
      clear HB1 KB1
      obtain ⟨k, hk, rfl, HB, HK, HA⟩ := hrel
      have k0 := block_cell HK.out
      by_cases hlt : k < n
      · have hkh : k < hs.length := by rw [HN.out]; exact hlt
        have hkr : k < rs.length := by rw [← HH.out.1]; exact hkh
        obtain ⟨b, o, rfl, -, hj⟩ := HX.out (by intro e; subst e; simp at hkh)
        have hd := head_cell (fun j x hjx => (hj j x hjx).on HB.out) (get!_some hkh)
        have HRow := hid ((HH.out.2 k _ _ (get!_some hkh) (get!_some hkr)).on HB.out)
        have HBAD := hid (fun h => check_bad (cs := cs) (rs := rs) HCB.out hkr h)
        have HSTEP : Hid (rowB cs rs[k]! = true → ∀ j, j < k + 1 → rowB cs rs[j]! = true) := fun e j hj => by
          by_cases h : j = k
          · subst h; exact e
          · exact HA.out j (by omega)
        generalize hs[k]! = hd0 at hd HRow
        generalize rs[k]! = r at HRow HBAD HSTEP
        clear hj
        obtain ⟨q', capr, rfl, hcapr, hmaxr, hz⟩ := HRow.out
        unfold maxLen at hmaxr
        have HZ := hid hz
        clear hz
        generalize hl : r.length = l at *
        have HL := hid hl
        clear hl
        by_cases hlm : l = m
        · have hne : ((l : Int) != (m : Int)) = false := by simp; omega
          go_wp2_with fail
          go_quiet (fail)
          have HB2 := hid (below_drewN HB.out nq)
          have HK2 := hid (show (wr.drewN nq).heap[w.heap.size]? = _ from HK.out)
          have hd2 : (wr.drewN nq).cell? ⟨b, o + k, none⟩ = _ := hd
          have HD2 := hid hd2
          have HZ2 : Hid (r ≠ [] → ∃ b o, q' = some ⟨b, o, none⟩ ∧ (any b ∧ l * bsz 11 ≤ 140737488355328) ∧ ∀ (j : Nat) x, r[j]? = some x → CellsAt (wr.drewN nq) b (o + j * 11) x.cells) := fun hne => by
            obtain ⟨b, o, hp, hQ, hj⟩ := HZ.out hne
            exact ⟨b, o, hp, hQ, fun j x hjx => (hj j x hjx).on (below_drewN (Below.refl _ _) nq)⟩
          clear k0 hd HB HK HZ HRow hd2
          generalize wr.drewN nq = w3 at *
          go_wp2
          go_loopw [4] (fun i w4 => ∃ j : Nat, j ≤ m ∧ i = .int .i64 j ∧ Hid (Below w3.heap.size w3 w4) ∧ Hid (∀ t, t < j → fitB cs[t]!.kd r[t]! = true)) (fun i _ => m - (intOf i).toNat)
          case atStart => exact ⟨0, by omega, rfl, Below.refl _ _, fun j h => absurd h (Nat.not_lt_zero _)⟩
          case round =>
            obtain ⟨j, hj, rfl, HB4, HF⟩ := hrel
            have HB5 := hid (below_on HB2.out HB4.out)
            have HK5 := hid (block_on HK2.out HB4.out)
            have kk := block_cell HK5.out
            by_cases hjm : j < m
            · have hjr : j < r.length := by rw [HL.out]; omega
              have hjc : j < cs.length := by rw [HM.out]; exact hjm
              obtain ⟨b1, o1, rfl, -, hv1⟩ := HZ2.out (by intro e; subst e; simp at hjr)
              obtain ⟨b2, o2, rfl, -, hv2⟩ := HY.out (by intro e; subst e; simp at hjc)
              obtain ⟨c0, c1, c2, c3, c4, c5, c6, c7, c8, c9, c10⟩ := val_cells ((hv1 j _ (get!_some hjr)).on HB4.out)
              obtain ⟨e0, e1⟩ := col_cells ((hv2 j _ (get!_some hjc)).on HB5.out)
              have hd5 := cell_on HD2.out HB4.out
              have HFBAD := hid (fun h => rowB_bad (cs := cs) (r := r) hjr h)
              have HFSTEP : Hid (fitB cs[j]!.kd r[j]! = true → ∀ t, t < j + 1 → fitB cs[t]!.kd r[t]! = true) := fun e t ht => by
                by_cases h : t = j
                · subst h; exact e
                · exact HF.out t (by omega)
              generalize r[j]! = x at c0 c1 c2 c3 c4 c5 c6 c7 c8 c9 c10 HFBAD HFSTEP
              generalize cs[j]! = y at e0 e1 HFBAD HFSTEP
              clear hv1 hv2 HZ2
              replace c0 := regrown_cell c0
              replace c1 := regrown_cell c1
              replace c2 := regrown_cell c2
              replace c3 := regrown_cell c3
              replace c4 := regrown_cell c4
              replace c5 := regrown_cell c5
              replace c6 := regrown_cell c6
              replace c7 := regrown_cell c7
              replace c8 := regrown_cell c8
              replace c9 := regrown_cell c9
              replace c10 := regrown_cell c10
              replace e1 := regrown_cell e1
              replace hd5 := regrown_cell hd5
              have kk0 : ∀ d os i, (grow (redrawn wr d) os).cell? ⟨w.heap.size, i, none⟩ = (#[.slice (some ⟨b2, o2, none⟩) m cap', .slice (some ⟨b, o, none⟩) n cap] : Array Value)[i]? := fun d os i => block_cell (block_on HK5.out (below_regrown wr d os)) i
              clear e0
              by_cases hkd : x.k = y.kd
              · have hkn : (x.k != y.kd) = false := by simpa using hkd
                have HKD := hid hkd
                clear hkd
                cases hvl : validL x with
                | true =>
                  go_wp2_with fail
                  refine wp_region_quiet_below (by kernel_rfl) (by kernel_rfl) ?_
                  repeat (go_big_quiet_step (first | (go_at_call 67; exact Calls.regrown_of (rvalid_is hvl))))
                  refine wpQuiet_nil ?_
                  intro _ hw'
                  obtain ⟨⟨dq, osq⟩, hw''⟩ := hw'
                  subst hw''
                  go_wp2
                  go_roundw
                  case rel => exact ⟨j + 1, by omega, by go_num, below_on HB4.out (below_regrown wr dq osq), HFSTEP.out (by rw [fit_is HKD.out]; exact hvl)⟩
                  case measure => simp [intOf]; omega
                | false =>
                  go_wp2_with fail
                  refine wp_region_quiet_below (by kernel_rfl) (by kernel_rfl) ?_
                  repeat (go_big_quiet_step (first | (go_at_call 67; exact Calls.regrown_of (rvalid_is hvl))))
                  refine wpQuiet_nil ?_
                  intro _ hw'
                  obtain ⟨⟨dq, osq⟩, hw''⟩ := hw'
                  subst hw''
                  go_wp2
                  go_ret
                  exact ⟨ret_int ((HBAD.out (HFBAD.out (by rw [fit_is HKD.out]; exact hvl))).symm.trans HR.out), below_on HB5.out (below_regrown wr dq osq)⟩
              · have hkn : (x.k != y.kd) = true := by simpa using hkd
                have HKD := hid hkd
                clear hkd
                go_wp2_with fail
                refine wp_region_quiet_below (by kernel_rfl) (by kernel_rfl) ?_
                repeat (go_big_quiet_step (first | fail))
                refine wpQuiet_nil ?_
                intro _ hw'
                obtain ⟨⟨dq, osq⟩, hw''⟩ := hw'
                subst hw''
                go_wp2
                go_ret
                exact ⟨ret_int ((HBAD.out (HFBAD.out (fit_no HKD.out))).symm.trans HR.out), below_on HB5.out (below_regrown wr dq osq)⟩
            · have hjs : j = m := by omega
              subst hjs
              go_wp2
              go_roundw
              case rel => exact ⟨k + 1, by omega, by go_num, HB5.out, HK5.out, HSTEP.out (rowB_yes (by rw [HL.out, HM.out]; exact hlm) (by rw [HL.out, hlm]; exact HF.out))⟩
              case measure => simp [intOf]; omega
        · have hne : ((l : Int) != (m : Int)) = true := by simp; omega
          go_wp2_with fail
          go_quiet (fail)
          go_wp2
          go_ret
          exact ⟨ret_int ((HBAD.out (rowB_no (by rw [HL.out, HM.out]; exact hlm))).symm.trans HR.out), below_drewN HB.out _⟩
      · have hks : k = n := by omega
        subst hks
        go_wp2
        go_ret
        exact ⟨ret_int ((check_ok HCB.out (by rw [← HH.out.1, HN.out]; exact HA.out)).symm.trans HR.out), HB.out⟩
end Go.Proofs.YtlbjbkhcnafhcaaGreat
namespace Go.Proofs.YtlbjbkhcnafhcaaGreat
open Go.RowKit Go.Sort Go.Shelf

set_option maxHeartbeats 400000 in
theorem fitC_any {x : Vl} {c : Cl} {w : World} : Calls Tryz.prog 76 #[x.val, .agg #[.string c.nm, .int .i64 c.kd]] w fun e w' => e = .returned (.bool (fitB c.kd x)) ∧ Below w.heap.size w w' := by
  have HB : Hid (Below w.heap.size w ((w.alloc (.cells (vc x) 40)).alloc (.cells #[.string c.nm, .int .i64 c.kd] 90))) := ((Below.refl w.heap.size w).alloc (Nat.le_refl _) _).alloc (by simp) _
  by_cases hk : x.k = c.kd
  · rw [fit_is hk]
    have he : (x.k == c.kd) = true := by simpa using hk
    clear hk
    generalize hr : validL x = r
    go_enter Tryz.func76, Tryz.ntmps76
    go_wp2_with (go_at_call 77; refine (valid_is hr).mono ?_; rintro e w' ⟨rfl, hb'⟩)
    go_ret
    exact ⟨rfl, below_on HB.out hb'⟩
  · rw [fit_no hk]
    have he : (x.k == c.kd) = false := by simpa using hk
    clear hk
    go_enter Tryz.func76, Tryz.ntmps76
    go_wp2
    go_ret
    exact ⟨rfl, HB.out⟩
theorem fitC_is {x : Vl} {c : Cl} {w : World} {r : Bool} (h : fitB c.kd x = r) : Calls Tryz.prog 76 #[x.val, .agg #[.string c.nm, .int .i64 c.kd]] w fun e w' => e = .returned (.bool r) ∧ Below w.heap.size w w' := by rw [← h]; exact fitC_any
set_option maxRecDepth 100000 in
set_option maxHeartbeats 1000000 in
theorem eqVC_any {u v : Value} {cs : List Cl} {r : Rw} {w : World} (hu : RowAt w u r) (hv : ColsAt w v cs) :
    Calls Tryz.prog 75 #[u, v, .func (.func 76) #[] #[]] w fun e w' => e = .returned (.bool (rowB cs r)) ∧ Below w.heap.size w w' := by
  have eg : ∀ args w, (callFunc 76 args).run Tryz.prog w = .ok (.enter 76 args) w := enters_of Tryz.func76 (by kernel_rfl) rfl
  obtain ⟨p, cap, rfl, hcap, hmax, hx⟩ := hu
  obtain ⟨p', cap', rfl, hcap', hmax', hx'⟩ := hv
  unfold maxLen at hmax hmax'
  generalize hr : rowB cs r = res
  have HR := hid hr
  have HX := hid hx
  have HX' := hid hx'
  clear hr hx hx'
  generalize hn : List.length r = n at *
  generalize hn' : cs.length = n' at *
  have HN := hid hn
  have HN' := hid hn'
  clear hn hn'
  by_cases he : n = n'
  · subst he
    go_enter Tryz.func75, Tryz.ntmps75
    go_wp2_with fail
    go_loopw [17] (fun i wr => ∃ k : Nat, k ≤ n ∧ i = .int .i64 k ∧ Hid (Below w.heap.size w wr) ∧ Hid (∀ j, j < k → fitB cs[j]!.kd r[j]! = true)) (fun i _ => n - (intOf i).toNat)
    case atStart => exact ⟨0, by omega, rfl, Below.refl _ _, fun j h => absurd h (Nat.not_lt_zero _)⟩
    case round =>
      obtain ⟨k, hk, rfl, HB, HA⟩ := hrel
      by_cases hlt : k < n
      · have hkr : k < List.length r := by rw [HN.out]; exact hlt
        have hkc : k < cs.length := by rw [HN'.out]; exact hlt
        obtain ⟨b, o, rfl, -, hj⟩ := HX.out (by intro e; subst e; simp at hkr)
        obtain ⟨b', o', rfl, -, hj'⟩ := HX'.out (by intro e; subst e; simp at hkc)
        obtain ⟨c0, c1, c2, c3, c4, c5, c6, c7, c8, c9, c10⟩ := val_cells ((hj k _ (get!_some hkr)).on HB.out)
        obtain ⟨d0, d1⟩ := col_cells ((hj' k _ (get!_some hkc)).on HB.out)
        have hb1 := block_lt_of_cell d1
        generalize hcc : cs[k]! = c at d0 d1
        generalize hvv : r[k]! = x at c0 c1 c2 c3 c4 c5 c6 c7 c8 c9 c10
        have HCC := hid hcc
        have HVV := hid hvv
        clear hcc hvv hj hj'
        have hsz : w.heap.size ≤ wr.heap.size := HB.out.size
        have HE := hid ((HB.out.alloc hsz (.cells (vc x) 40)).alloc (by rw [World.size_alloc]; omega) (.cells #[.string c.nm, .int .i64 c.kd] 90))
        cases hf : fitB c.kd x with
        | true =>
          go_wp2_with (go_at_fn 76; refine (fitC_is hf).mono ?_; rintro e w2 ⟨rfl, hb2⟩)
          go_roundw
          case rel =>
            refine ⟨k + 1, by omega, by go_num, below_on HE.out hb2, fun j h => ?_⟩
            by_cases e : j = k
            · subst e; rw [HCC.out, HVV.out]; exact hf
            · exact HA.out j (by omega)
          case measure => simp [intOf]; omega
        | false =>
          go_wp2_with (go_at_fn 76; refine (fitC_is hf).mono ?_; rintro e w2 ⟨rfl, hb2⟩)
          go_ret
          exact ⟨ret_bool ((rowB_bad hkr (by rw [HCC.out, HVV.out]; exact hf)).symm.trans HR.out), below_on HE.out hb2⟩
      · have hks : k = n := by omega
        subst hks
        go_wp2
        go_ret
        exact ⟨ret_bool ((rowB_yes (by rw [HN.out, HN'.out]) (by rw [HN.out]; exact HA.out)).symm.trans HR.out), HB.out⟩
  · have hne : ((n : Int) != (n' : Int)) = true := by simp; omega
    go_enter Tryz.func75, Tryz.ntmps75
    go_wp2
    go_ret
    exact ⟨ret_bool ((rowB_no (by rw [HN.out, HN'.out]; exact he)).symm.trans HR.out), Below.refl _ _⟩
set_option maxHeartbeats 400000 in
theorem fill_any {u v : Value} {cs : List Cl} {r : Rw} {w : World} (hu : RowAt w u r) (hv : ColsAt w v cs) :
    Calls Tryz.prog 50 #[u, v] w fun e w' => e = .returned (.bool (rowB cs r)) ∧ Below w.heap.size w w' := by
  have HU := hid hu
  have HV := hid hv
  clear hu hv
  go_enter Tryz.func50, Tryz.ntmps50
  go_wp2_with (go_at_call 75; refine (eqVC_any HU.out HV.out).mono ?_; rintro e w' ⟨rfl, hb'⟩)
  go_ret
  exact ⟨rfl, hb'⟩
theorem fill_is {u v : Value} {cs : List Cl} {r : Rw} {w : World} {q : Bool} (hu : RowAt w u r) (hv : ColsAt w v cs) (h : rowB cs r = q) :
    Calls Tryz.prog 50 #[u, v] w fun e w' => e = .returned (.bool q) ∧ Below w.heap.size w w' := by rw [← h]; exact fill_any hu hv
theorem fits_none {l : List Sc} {p : Pt} (h : atS l p.sc < 0) : fitsS l p = 50 := by rw [fitsS, if_pos h]
theorem fits_of {l : List Sc} {p : Pt} {j : Nat} {r : Bool} (h : atS l p.sc = (j : Int)) (hr : fitP l[j]! p = r) : fitsS l p = if r = true then 0 else 51 := by
  rw [fitsS, if_neg (by omega), h, Int.toNat_natCast, hr]
end Go.Proofs.YtlbjbkhcnafhcaaGreat
namespace Go.Proofs.YtlbjbkhcnafhcaaGreat
open Go.RowKit Go.Sort Go.Shelf

theorem fit_parts {s : Sc} {p : Pt} {a b c d : Bool} (h1 : rowB s.ks p.ks = a) (h2 : rowB s.vs p.vs = b) (h3 : decide (0 ≤ p.tm) = c) (h4 : decide (p.tm < 1099511627776) = d) : fitP s p = (a && (b && (c && d))) := by rw [fitP, h1, h2, h3, h4]
theorem at_nat {l : List Sc} {nm : ByteArray} (h : ¬ atS l nm < 0) : ∃ j : Nat, j < l.length ∧ atS l nm = (j : Int) := by
  have := atS_lt (l := l) (nm := nm)
  exact ⟨(atS l nm).toNat, by omega, by omega⟩
theorem ret51 {l : List Sc} {p : Pt} {j : Nat} {r : Bool} {z z' : Int} (hz : fitsS l p = z) (h : atS l p.sc = (j : Int)) (hr : fitP l[j]! p = r) (he : (if r = true then (0 : Int) else 51) = z') : Ending.returned (.int .i64 z') = .returned (.int .i64 z) := by
  rw [← hz, fits_of h hr, he]
set_option maxRecDepth 100000 in
set_option maxHeartbeats 4000000 in
theorem sfits_any {v u : Value} {l : List Sc} {p : Pt} {w : World} (hv : SchsAt w v l) (hp : PtAt w u p) :
    Calls Tryz.prog 26 #[v, u] w fun e w' => e = .returned (.int .i64 (fitsS l p)) ∧ Below w.heap.size w w' := by
  have HV := hid hv
  obtain ⟨hs, ⟨q, cap, rfl, hcap, hmax, hx⟩, hh⟩ := hv
  obtain ⟨kv, vv, rfl, hk1, hk2⟩ := hp
  have HK := hid hk1
  have HW := hid hk2
  obtain ⟨pk, ck, rfl, -⟩ := hk1
  obtain ⟨pv, cv, rfl, -⟩ := hk2
  generalize List.length p.ks = nk at *
  generalize List.length p.vs = nv at *
  unfold maxLen at hmax
  generalize hr : fitsS l p = r
  have HR := hid hr
  have HX := hid hx
  have HH := hid hh
  have hl := hh.1
  clear hr hx hh
  generalize hn : hs.length = n at *
  have HN := hid hn
  have HL := hid hl
  clear hn
  have HB := hid ((Below.refl w.heap.size w).alloc (Nat.le_refl _) (.cells #[.string p.sc, .slice pk nk ck, .int .i64 p.tm, .slice pv nv cv] 34))
  have KB := hid (alloc_block w (.cells #[.string p.sc, .slice pk nk ck, .int .i64 p.tm, .slice pv nv cv] 34))
  by_cases hneg : atS l p.sc < 0
  · generalize hz : atS l p.sc = z at *
    have HZ := hid hz
    have HNG : Hid (atS l p.sc < 0) := by show atS l p.sc < 0; rw [hz]; exact hneg
    clear hz hl
    go_enter Tryz.func26, Tryz.ntmps26
    go_wp2_with (go_at_call 44; refine (place_is (HV.out.on HB.out) HZ.out).mono ?_; rintro e w1 ⟨rfl, hb1⟩)
    go_ret
    exact ⟨ret_int ((fits_none HNG.out).symm.trans HR.out), below_on HB.out hb1⟩
  · obtain ⟨j, hj, hat⟩ := at_nat hneg
    have hjn : j < n := by omega
    have hjh : j < hs.length := by rw [HN.out]; exact hjn
    obtain ⟨b, o, rfl, -, hjx⟩ := HX.out (by intro e; have := HN.out; rw [e] at this; simp at this; omega)
    have HJ := hid (hjx j _ (get!_some hjh))
    have hsi := HH.out.2 j _ _ (get!_some hjh) (get!_some hj)
    generalize hs[j]! = hd at HJ hsi
    obtain ⟨qk, mk, dk, qv, mv, dv, rfl⟩ := sh_form hsi
    have HSK := hid hsi.ks
    have HSV := hid hsi.vs
    dsimp only at HSK HSV
    generalize hs0 : l[j]! = s at *
    have HS0 := hid hs0
    have HAT := hid hat
    clear hsi hjx HX HH hl hneg hat hs0
    have hj0 : ¬ (j : Int) < 0 := by omega
    generalize h1 : rowB s.ks p.ks = a
    generalize h2 : rowB s.vs p.vs = c
    have H1 := hid h1
    have H2 := hid h2
    clear h1 h2
    go_enter Tryz.func26, Tryz.ntmps26
    go_wp2_with (go_at_call 44; refine (place_is (HV.out.on HB.out) HAT.out).mono ?_; rintro e w1 ⟨rfl, hb1⟩; have HB1 := hid (below_on HB.out hb1); have KB1 := hid (block_on KB.out hb1); clear hb1)
    have kk : ∀ d os i, (grow (redrawn w1 d) os).cell? ⟨w.heap.size, i, none⟩ = (#[.string p.sc, .slice pk nk ck, .int .i64 p.tm, .slice pv nv cv] : Array Value)[i]? := fun d os i => block_cell (block_on KB1.out (below_regrown w1 d os)) i
    obtain ⟨-, c1, c2⟩ := sh_cells (HJ.out.on HB1.out)
    have e1 := regrown_cell c1
    have e2 := regrown_cell c2
    have HU1 : ∀ d os, Hid (RowAt (grow (redrawn w1 d) os) (.slice pk nk ck) p.ks) := fun d os => (HK.out.on HB1.out).on (below_regrown w1 d os)
    have HU2 : ∀ d os, Hid (ColsAt (grow (redrawn w1 d) os) (.slice qk mk dk) s.ks) := fun d os => (HSK.out.on HB1.out).on (below_regrown w1 d os)
    have HU3 : ∀ d os, Hid (RowAt (grow (redrawn w1 d) os) (.slice pv nv cv) p.vs) := fun d os => (HW.out.on HB1.out).on (below_regrown w1 d os)
    have HU4 : ∀ d os, Hid (ColsAt (grow (redrawn w1 d) os) (.slice qv mv dv) s.vs) := fun d os => (HSV.out.on HB1.out).on (below_regrown w1 d os)
    clear c1 c2
    dsimp only at e1 e2
    cases a with
    | false =>
      refine wp_region_quiet_below (by kernel_rfl) (by kernel_rfl) ?_
      repeat (go_big_quiet_step (first | (go_at_call 50; exact Calls.regrown_of (fill_is (HU1 _ _).out (HU2 _ _).out H1.out))))
      refine wpQuiet_nil ?_
      intro _ hw'
      obtain ⟨⟨dq, osq⟩, hw''⟩ := hw'
      subst hw''
      go_wp2
      go_ret
      exact ⟨ret51 (r := false) HR.out HAT.out (by rw [HS0.out]; exact fit_parts H1.out H2.out rfl rfl) rfl, below_on HB1.out (below_regrown w1 dq osq)⟩
    | true =>
      cases c with
      | false =>
        refine wp_region_quiet_below (by kernel_rfl) (by kernel_rfl) ?_
        iterate 8 (go_big_quiet_step (first | (go_at_call 50; exact Calls.regrown_of (fill_is (HU1 _ _).out (HU2 _ _).out H1.out))))
        repeat (go_big_quiet_step (first | (go_at_call 50; exact Calls.regrown_of (fill_is (HU3 _ _).out (HU4 _ _).out H2.out))))
        refine wpQuiet_nil ?_
        intro _ hw'
        obtain ⟨⟨dq, osq⟩, hw''⟩ := hw'
        subst hw''
        go_wp2
        go_ret
        exact ⟨ret51 (r := false) HR.out HAT.out (by rw [HS0.out]; exact fit_parts H1.out H2.out rfl rfl) rfl, below_on HB1.out (below_regrown w1 dq osq)⟩
      | true =>
        by_cases h3 : p.tm < 0
        · have H3 : Hid (decide (0 ≤ p.tm) = false) := by show _ = false; rw [decide_eq_false_iff_not]; omega
          refine wp_region_quiet_below (by kernel_rfl) (by kernel_rfl) ?_
          iterate 8 (go_big_quiet_step (first | (go_at_call 50; exact Calls.regrown_of (fill_is (HU1 _ _).out (HU2 _ _).out H1.out))))
          repeat (go_big_quiet_step (first | (go_at_call 50; exact Calls.regrown_of (fill_is (HU3 _ _).out (HU4 _ _).out H2.out))))
          refine wpQuiet_nil ?_
          intro _ hw'
          obtain ⟨⟨dq, osq⟩, hw''⟩ := hw'
          subst hw''
          go_wp2
          go_ret
          exact ⟨ret51 (r := false) HR.out HAT.out (by rw [HS0.out]; exact fit_parts H1.out H2.out H3.out rfl) rfl, below_on HB1.out (below_regrown w1 dq osq)⟩
        · have H3 : Hid (decide (0 ≤ p.tm) = true) := by show _ = true; rw [decide_eq_true_eq]; omega
          by_cases h4 : 1099511627776 ≤ p.tm
          · have H4 : Hid (decide (p.tm < 1099511627776) = false) := by show _ = false; rw [decide_eq_false_iff_not]; omega
            refine wp_region_quiet_below (by kernel_rfl) (by kernel_rfl) ?_
            iterate 8 (go_big_quiet_step (first | (go_at_call 50; exact Calls.regrown_of (fill_is (HU1 _ _).out (HU2 _ _).out H1.out))))
            repeat (go_big_quiet_step (first | (go_at_call 50; exact Calls.regrown_of (fill_is (HU3 _ _).out (HU4 _ _).out H2.out))))
            refine wpQuiet_nil ?_
            intro _ hw'
            obtain ⟨⟨dq, osq⟩, hw''⟩ := hw'
            subst hw''
            go_wp2
            go_ret
            exact ⟨ret51 (r := false) HR.out HAT.out (by rw [HS0.out]; exact fit_parts H1.out H2.out H3.out H4.out) rfl, below_on HB1.out (below_regrown w1 dq osq)⟩
          · have H4 : Hid (decide (p.tm < 1099511627776) = true) := by show _ = true; rw [decide_eq_true_eq]; omega
            refine wp_region_quiet_below (by kernel_rfl) (by kernel_rfl) ?_
            iterate 8 (go_big_quiet_step (first | (go_at_call 50; exact Calls.regrown_of (fill_is (HU1 _ _).out (HU2 _ _).out H1.out))))
            repeat (go_big_quiet_step (first | (go_at_call 50; exact Calls.regrown_of (fill_is (HU3 _ _).out (HU4 _ _).out H2.out))))
            refine wpQuiet_nil ?_
            intro _ hw'
            obtain ⟨⟨dq, osq⟩, hw''⟩ := hw'
            subst hw''
            go_wp2
            go_ret
            exact ⟨ret51 (r := true) HR.out HAT.out (by rw [HS0.out]; exact fit_parts H1.out H2.out H3.out H4.out) rfl, below_on HB1.out (below_regrown w1 dq osq)⟩
end Go.Proofs.YtlbjbkhcnafhcaaGreat
namespace Go.Proofs.YtlbjbkhcnafhcaaGreat
open Go.RowKit Go.Sort Go.Shelf

def zSc : Value := .agg #[.string ⟨#[]⟩, .slice none 0 0, .slice none 0 0]
theorem findS_hit {l : List Sc} {nm : ByteArray} {k : Nat} (hk : k < l.length) (h : l[k]!.nm = nm) (hne : ∀ j, j < k → ¬ l[j]!.nm = nm) : atS l nm = (k : Int) := by
  unfold atS
  have key : ∀ (ns : List ByteArray) (i k : Nat) (hk : k < ns.length), ns[k] = nm → (∀ j (hj : j < ns.length), j < k → ¬ ns[j] = nm) → nameFrom nm ns i = ((i + k : Nat) : Int) := by
    intro ns
    induction ns with
    | nil => intro i k hk; simp at hk
    | cons y r ih =>
      intro i k hk h1 h2
      unfold nameFrom
      cases k with
      | zero => rw [if_pos (by simpa using h1)]; omega
      | succ k =>
        rw [if_neg (by have := h2 0 (by simp) (by omega); simpa using this)]
        rw [ih (i + 1) k (by simpa using hk) (by simpa using h1) (fun j hj hlt => by have := h2 (j + 1) (by simpa using hj) (by omega); simpa using this)]
        omega
  have := key (l.map Sc.nm) 0 k (by simpa using hk) (by rw [List.getElem_map]; rwa [getElem!_pos l k hk] at h) (fun j hj hlt => by
    have hj' : j < l.length := by simpa using hj
    have := hne j hlt
    rw [getElem!_pos l j hj'] at this
    rw [List.getElem_map]; exact this)
  rw [this]; omega
theorem findS_miss {l : List Sc} {nm : ByteArray} (hne : ∀ j, j < l.length → ¬ l[j]!.nm = nm) : atS l nm = -1 := by
  refine atS_none fun h => ?_
  obtain ⟨s, hs, e⟩ := List.mem_map.1 h
  obtain ⟨j, hj, rfl⟩ := List.mem_iff_getElem.1 hs
  have := hne j hj
  rw [getElem!_pos l j hj] at this
  exact this e
/- What a look for a name answers. -/
def Found (w : World) (l : List Sc) (nm : ByteArray) (e : Ending) (w' : World) : Prop :=
  (∃ u b, e = .returned (.tuple #[u, .bool b]) ∧ ((atS l nm < 0 ∧ u = zSc ∧ b = false) ∨ (∃ j : Nat, j < l.length ∧ atS l nm = (j : Int) ∧ b = true ∧ ScAt w' u l[j]!))) ∧ Below w.heap.size w w'
theorem Found.none {w : World} {l : List Sc} {nm : ByteArray} {e : Ending} {w' : World} (h : Found w l nm e w') (hn : atS l nm < 0) : e = .returned (.tuple #[zSc, .bool false]) ∧ Below w.heap.size w w' := by
  obtain ⟨⟨u, b, rfl, ⟨_, rfl, rfl⟩ | ⟨j, _, h2, _⟩⟩, hb⟩ := h
  · exact ⟨rfl, hb⟩
  · omega
theorem Found.some {w : World} {l : List Sc} {nm : ByteArray} {e : Ending} {w' : World} (h : Found w l nm e w') {j : Nat} (hn : atS l nm = (j : Int)) : (∃ u, e = .returned (.tuple #[u, .bool true]) ∧ ScAt w' u l[j]!) ∧ Below w.heap.size w w' := by
  obtain ⟨⟨u, b, rfl, ⟨h1, rfl, rfl⟩ | ⟨i, _, h2, rfl, h3⟩⟩, hb⟩ := h
  · omega
  · obtain rfl : i = j := by omega
    exact ⟨⟨u, rfl, h3⟩, hb⟩
set_option maxRecDepth 100000 in
set_option maxHeartbeats 1000000 in
theorem rsfind_any {v : Value} {l : List Sc} {nm : ByteArray} {w : World} (hv : SchsAt w v l) :
    Calls Tryz.prog 38 #[v, .string nm] w (Found w l nm) := by
  obtain ⟨hs, ⟨p, cap, rfl, hcap, hmax, hx⟩, hh⟩ := hv
  unfold maxLen at hmax
  have HX := hid hx
  have HH := hid hh
  have hl := hh.1
  clear hx hh
  generalize hn : hs.length = n at *
  have HN := hid hn
  have HL := hid hl
  clear hn hl
  have HB0 := hid ((Below.refl w.heap.size w).alloc (Nat.le_refl _) (.cells #[.string ⟨#[]⟩, .slice none 0 0, .slice none 0 0] 52))
  have KB0 := hid (alloc_block w (.cells #[.string ⟨#[]⟩, .slice none 0 0, .slice none 0 0] 52))
  go_enter Tryz.func38, Tryz.ntmps38
  go_wp2_with fail
  generalize (w.alloc (.cells #[.string ⟨#[]⟩, .slice none 0 0, .slice none 0 0] 52)) = W at *
  go_loopw [6] (fun i wr => ∃ k : Nat, k ≤ n ∧ i = .int .i64 k ∧ W = wr ∧ Hid (∀ j, j < k → ¬ l[j]!.nm = nm)) (fun i _ => n - (intOf i).toNat)
  case atStart => exact ⟨0, by omega, rfl, rfl, fun j h => absurd h (Nat.not_lt_zero _)⟩
  case round =>
    obtain ⟨k, hk, rfl, rfl, HA⟩ := hrel
    have kb := block_cell KB0.out
    have fz := frozen_no KB0.out
    by_cases hlt : k < n
    · have hkh : k < hs.length := by rw [HN.out]; exact hlt
      have hkl : k < l.length := by rw [← HL.out]; exact hlt
      obtain ⟨b, o, rfl, -, hj⟩ := HX.out (by intro e; subst e; simp at hkh)
      obtain ⟨c0, c1, c2⟩ := sh_cells ((hj k _ (get!_some hkh)).on HB0.out)
      have hsi := HH.out.2 k _ _ (get!_some hkh) (get!_some hkl)
      generalize hs[k]! = hd at c0 c1 c2 hsi
      obtain ⟨pk, nk, ck, pv, nv, cv, rfl⟩ := sh_form hsi
      dsimp only at c0 c1 c2
      have HSI := hid hsi
      have hbw := block_lt_of_cell c0
      have hne0 : b ≠ w.heap.size := by
        have := block_lt_of_cell (hj k _ (get!_some hkh) 0 _ rfl)
        simp at this
        omega
      generalize hlk : l[k]! = s at *
      have HLK := hid hlk
      clear hsi hlk hj
      have hq := bytes_beq s.nm nm
      by_cases he : s.nm = nm
      · have HE := hid he
        rw [decide_eq_true he] at hq
        clear he
        go_wp2_with fail
        have KF := Joins.block_setCell (i := 2) (Joins.block_setCell (i := 1) (Joins.block_setCell (i := 0) KB0.out (.string s.nm)) (.slice pk nk ck)) (.slice pv nv cv)
        have HBF : Below w.heap.size w (((W.setCell ⟨w.heap.size, 0, none⟩ (.string s.nm)).setCell ⟨w.heap.size, 1, none⟩ (.slice pk nk ck)).setCell ⟨w.heap.size, 2, none⟩ (.slice pv nv cv)) := ((HB0.out.setCell (Nat.le_refl _) _).setCell (Nat.le_refl _) _).setCell (Nat.le_refl _) _
        generalize (((W.setCell ⟨w.heap.size, 0, none⟩ (.string s.nm)).setCell ⟨w.heap.size, 1, none⟩ (.slice pk nk ck)).setCell ⟨w.heap.size, 2, none⟩ (.slice pv nv cv)) = WF at KF HBF ⊢
        have kcf := block_cell KF
        clear KF kb fz c0 c1 c2
        refine bodyPost_ret (v := .tuple #[.agg #[.string s.nm, .slice pk nk ck, .slice pv nv cv], .bool true]) (by simp [results, Tryz.results38, go_sem, kcf]) rfl ⟨⟨_, _, rfl, .inr ⟨k, hkl, findS_hit hkl (by rw [HLK.out]; exact HE.out) HA.out, rfl, ?_⟩⟩, HBF⟩
        rw [HLK.out]
        exact ⟨_, _, rfl, HSI.out.ks.on HBF, HSI.out.vs.on HBF⟩
      · have HE := hid he
        rw [decide_eq_false he] at hq
        clear he
        go_wp2_with fail
        go_roundw
        case rel =>
          refine ⟨k + 1, by omega, by go_num, by trivial, fun j h => ?_⟩
          by_cases e : j = k
          · subst e; rw [HLK.out]; exact HE.out
          · exact HA.out j (by omega)
        case measure => simp [intOf]; omega
    · have hks : k = n := by omega
      subst hks
      go_wp2_with fail
      have KF := Joins.block_setCell (i := 2) (Joins.block_setCell (i := 1) (Joins.block_setCell (i := 0) KB0.out (.string ⟨#[]⟩)) (.slice none 0 0)) (.slice none 0 0)
      have HBF : Below w.heap.size w (((W.setCell ⟨w.heap.size, 0, none⟩ (.string ⟨#[]⟩)).setCell ⟨w.heap.size, 1, none⟩ (.slice none 0 0)).setCell ⟨w.heap.size, 2, none⟩ (.slice none 0 0)) := ((HB0.out.setCell (Nat.le_refl _) _).setCell (Nat.le_refl _) _).setCell (Nat.le_refl _) _
      generalize (((W.setCell ⟨w.heap.size, 0, none⟩ (.string ⟨#[]⟩)).setCell ⟨w.heap.size, 1, none⟩ (.slice none 0 0)).setCell ⟨w.heap.size, 2, none⟩ (.slice none 0 0)) = WF at KF HBF ⊢
      have kcf := block_cell KF
      clear KF kb fz
      have hm := findS_miss (l := l) (nm := nm) (by rw [← HL.out]; exact HA.out)
      exact bodyPost_ret (v := .tuple #[zSc, .bool false]) (by simp [results, Tryz.results38, go_sem, kcf, zSc]) rfl ⟨⟨_, _, rfl, .inl ⟨by omega, rfl, rfl⟩⟩, HBF⟩
theorem rvalid_is5 {x : Vl} {r : Bool} {w : World} (h : validL x = r) : Calls Tryz.prog 67 #[x.val] w fun e w' => e = .returned (.bool r) ∧ Below w.heap.size w w' := by rw [← h]; exact rvalid_any
set_option maxRecDepth 100000 in
set_option maxHeartbeats 2000000 in
theorem rfill_any {u v : Value} {cs : List Cl} {r : Rw} {w : World} (hu : RowAt w u r) (hv : ColsAt w v cs) :
    Calls Tryz.prog 58 #[u, v] w fun e w' => e = .returned (.bool (rowB cs r)) ∧ Below w.heap.size w w' := by
  obtain ⟨p, cap, rfl, hcap, hmax, hx⟩ := hu
  obtain ⟨p', cap', rfl, hcap', hmax', hx'⟩ := hv
  unfold maxLen at hmax hmax'
  generalize hr : rowB cs r = res
  have HR := hid hr
  have HX := hid hx
  have HX' := hid hx'
  clear hr hx hx'
  generalize hn : List.length r = n at *
  generalize hn' : cs.length = n' at *
  have HN := hid hn
  have HN' := hid hn'
  clear hn hn'
  by_cases he : n = n'
  · subst he
    go_enter Tryz.func58, Tryz.ntmps58
    go_wp2_with fail
    go_loopw [5] (fun i wr => ∃ k : Nat, k ≤ n ∧ i = .int .i64 k ∧ Hid (Below w.heap.size w wr) ∧ Hid (∀ j, j < k → fitB cs[j]!.kd r[j]! = true)) (fun i _ => n - (intOf i).toNat)
    case atStart => exact ⟨0, by omega, rfl, Below.refl _ _, fun j h => absurd h (Nat.not_lt_zero _)⟩
    case round =>
      obtain ⟨k, hk, rfl, HB, HA⟩ := hrel
      by_cases hlt : k < n
      · have hkr : k < List.length r := by rw [HN.out]; exact hlt
        have hkc : k < cs.length := by rw [HN'.out]; exact hlt
        obtain ⟨b, o, rfl, -, hj⟩ := HX.out (by intro e; subst e; simp at hkr)
        obtain ⟨b', o', rfl, -, hj'⟩ := HX'.out (by intro e; subst e; simp at hkc)
        obtain ⟨c0, c1, c2, c3, c4, c5, c6, c7, c8, c9, c10⟩ := val_cells ((hj k _ (get!_some hkr)).on HB.out)
        obtain ⟨-, d1⟩ := col_cells ((hj' k _ (get!_some hkc)).on HB.out)
        generalize hcc : cs[k]! = c at d1
        generalize hvv : r[k]! = x at c0 c1 c2 c3 c4 c5 c6 c7 c8 c9 c10
        have HCC := hid hcc
        have HVV := hid hvv
        clear hcc hvv hj hj'
        replace c0 := regrown_cell c0
        replace c1 := regrown_cell c1
        replace c2 := regrown_cell c2
        replace c3 := regrown_cell c3
        replace c4 := regrown_cell c4
        replace c5 := regrown_cell c5
        replace c6 := regrown_cell c6
        replace c7 := regrown_cell c7
        replace c8 := regrown_cell c8
        replace c9 := regrown_cell c9
        replace c10 := regrown_cell c10
        replace d1 := regrown_cell d1
        by_cases hkd : x.k = c.kd
        · have hne : (x.k != c.kd) = false := by simpa using hkd
          have HKD := hid hkd
          clear hkd
          cases hval : validL x with
          | true =>
            go_wp2_with fail
            refine wp_region_quiet_below (by kernel_rfl) (by kernel_rfl) ?_
            repeat (go_big_quiet_step (first | (go_at_call 67; exact Calls.regrown_of (rvalid_is5 hval))))
            refine wpQuiet_nil ?_
            intro _ hw'
            obtain ⟨⟨dq, osq⟩, hw''⟩ := hw'
            subst hw''
            go_wp2
            go_roundw
            case rel =>
              refine ⟨k + 1, by omega, by go_num, below_on HB.out (below_regrown wr dq osq), fun j h => ?_⟩
              by_cases e : j = k
              · subst e; rw [HCC.out, HVV.out, fit_is HKD.out]; exact hval
              · exact HA.out j (by omega)
            case measure => simp [intOf]; omega
          | false =>
            go_wp2_with fail
            refine wp_region_quiet_below (by kernel_rfl) (by kernel_rfl) ?_
            repeat (go_big_quiet_step (first | (go_at_call 67; exact Calls.regrown_of (rvalid_is5 hval))))
            refine wpQuiet_nil ?_
            intro _ hw'
            obtain ⟨⟨dq, osq⟩, hw''⟩ := hw'
            subst hw''
            go_wp2
            go_ret
            exact ⟨ret_bool ((rowB_bad hkr (by rw [HCC.out, HVV.out, fit_is HKD.out]; exact hval)).symm.trans HR.out), below_on HB.out (below_regrown wr dq osq)⟩
        · have hne : (x.k != c.kd) = true := by simpa using hkd
          have HKD := hid hkd
          clear hkd
          go_wp2_with fail
          refine wp_region_quiet_below (by kernel_rfl) (by kernel_rfl) ?_
          repeat (go_big_quiet_step (fail))
          refine wpQuiet_nil ?_
          intro _ hw'
          obtain ⟨⟨dq, osq⟩, hw''⟩ := hw'
          subst hw''
          go_wp2
          go_ret
          exact ⟨ret_bool ((rowB_bad hkr (by rw [HCC.out, HVV.out]; exact fit_no HKD.out)).symm.trans HR.out), below_on HB.out (below_regrown wr dq osq)⟩
      · have hks : k = n := by omega
        subst hks
        go_wp2
        go_ret
        exact ⟨ret_bool ((rowB_yes (by rw [HN.out, HN'.out]) (by rw [HN.out]; exact HA.out)).symm.trans HR.out), HB.out⟩
  · have hne : ((n : Int) != (n' : Int)) = true := by simp; omega
    go_enter Tryz.func58, Tryz.ntmps58
    go_wp2
    go_ret
    exact ⟨ret_bool ((rowB_no (by rw [HN.out, HN'.out]; exact he)).symm.trans HR.out), Below.refl _ _⟩
theorem rfill_is {u v : Value} {cs : List Cl} {r : Rw} {w : World} {q : Bool} (hu : RowAt w u r) (hv : ColsAt w v cs) (h : rowB cs r = q) :
    Calls Tryz.prog 58 #[u, v] w fun e w' => e = .returned (.bool q) ∧ Below w.heap.size w w' := by rw [← h]; exact rfill_any hu hv
end Go.Proofs.YtlbjbkhcnafhcaaGreat
namespace Go.Proofs.YtlbjbkhcnafhcaaGreat
open Go.RowKit Go.Sort Go.Shelf

theorem blk_upS {w : World} {b : Nat} {o : Obj} (h : w.heap[b]? = some o) (x : Obj) : (w.alloc x).heap[b]? = some o := block_on h ((Below.refl _ _).alloc (Nat.le_refl _) x)
theorem rfind_none {v : Value} {l : List Sc} {nm : ByteArray} {w : World} (hv : SchsAt w v l) (hn : atS l nm < 0) : Calls Tryz.prog 38 #[v, .string nm] w fun e w' => e = .returned (.tuple #[.agg #[.string ⟨#[]⟩, .slice none 0 0, .slice none 0 0], .bool false]) ∧ Below w.heap.size w w' :=
  (rsfind_any hv).mono fun _ _ h => h.none hn
theorem sc_form {w : World} {u : Value} {s : Sc} (h : ScAt w u s) : ∃ pk nk ck pv nv cv, u = .agg #[.string s.nm, .slice pk nk ck, .slice pv nv cv] ∧ ColsAt w (.slice pk nk ck) s.ks ∧ ColsAt w (.slice pv nv cv) s.vs := by
  obtain ⟨kv, vv, rfl, h1, h2⟩ := h
  have k1 := h1
  have k2 := h2
  obtain ⟨pk, ck, rfl, -⟩ := h1
  obtain ⟨pv, cv, rfl, -⟩ := h2
  exact ⟨_, _, _, _, _, _, rfl, k1, k2⟩
def FoundAt (w : World) (s : Sc) (e : Ending) (w' : World) : Prop := ∃ pk nk ck pv nv cv, e = .returned (.tuple #[.agg #[.string s.nm, .slice pk nk ck, .slice pv nv cv], .bool true]) ∧ ColsAt w' (.slice pk nk ck) s.ks ∧ ColsAt w' (.slice pv nv cv) s.vs ∧ Below w.heap.size w w'
theorem rfind_some {v : Value} {l : List Sc} {nm : ByteArray} {w : World} {j : Nat} (hv : SchsAt w v l) (hn : atS l nm = (j : Int)) : Calls Tryz.prog 38 #[v, .string nm] w (FoundAt w l[j]!) :=
  (rsfind_any hv).mono fun _ _ h => by
    obtain ⟨⟨u, rfl, hs⟩, hb⟩ := h.some hn
    obtain ⟨pk, nk, ck, pv, nv, cv, rfl, h1, h2⟩ := sc_form hs
    exact ⟨_, _, _, _, _, _, rfl, h1, h2, hb⟩
set_option maxRecDepth 100000 in
set_option maxHeartbeats 4000000 in
theorem rsfits_any {v u : Value} {l : List Sc} {p : Pt} {w : World} (hv : SchsAt w v l) (hp : PtAt w u p) :
    Calls Tryz.prog 31 #[v, u] w fun e w' => e = .returned (.int .i64 (fitsS l p)) ∧ Below w.heap.size w w' := by
  have HV := hid hv
  obtain ⟨hs, ⟨q, cap, rfl, -⟩, -⟩ := hv
  obtain ⟨kv, vv, rfl, hk1, hk2⟩ := hp
  have HK := hid hk1
  have HW := hid hk2
  obtain ⟨pk, ck, rfl, -⟩ := hk1
  obtain ⟨pv, cv, rfl, -⟩ := hk2
  generalize List.length p.ks = nk at *
  generalize List.length p.vs = nv at *
  generalize hr : fitsS l p = r
  have HR := hid hr
  clear hr
  generalize hs.length = n at *
  have HB := hid ((Below.refl w.heap.size w).alloc (Nat.le_refl _) (.cells #[.string p.sc, .slice pk nk ck, .int .i64 p.tm, .slice pv nv cv] 34))
  have KB := hid (alloc_block w (.cells #[.string p.sc, .slice pk nk ck, .int .i64 p.tm, .slice pv nv cv] 34))
  by_cases hneg : atS l p.sc < 0
  · have HNG := hid hneg
    clear hneg
    go_enter Tryz.func31, Tryz.ntmps31
    go_wp2_with (go_at_call 38; refine (rfind_none (HV.out.on HB.out) HNG.out).mono ?_; rintro e w1 ⟨rfl, hb1⟩)
    go_ret
    exact ⟨ret_int ((fits_none HNG.out).symm.trans HR.out), (below_on HB.out hb1).alloc (below_on HB.out hb1).size _⟩
  · obtain ⟨j, hj, hat⟩ := at_nat hneg
    generalize hs0 : l[j]! = s
    have HS0 := hid hs0
    have HAT := hid hat
    have HFD : Hid (∀ W, SchsAt W (.slice q n cap) l → Calls Tryz.prog 38 #[.slice q n cap, .string p.sc] W (FoundAt W s)) := fun W hW => by rw [← HS0.out]; exact rfind_some hW HAT.out
    clear hneg hat hs0
    generalize h1 : rowB s.ks p.ks = a
    generalize h2 : rowB s.vs p.vs = c
    have H1 := hid h1
    have H2 := hid h2
    clear h1 h2
    have M1 : Hid True := trivial
    cases a with
    | false =>
      go_enter Tryz.func31, Tryz.ntmps31
      go_wp2_with (first
        | (go_at_call 38; refine (HFD.out _ (HV.out.on HB.out)).mono ?_; rintro e w1 ⟨qk, mk, dk, qv, mv, dv, rfl, g1, g2, hb1⟩; have HB1 := hid (below_on HB.out hb1); have HB2 := hid (HB1.out.alloc HB1.out.size (.cells #[.string s.nm, .slice qk mk dk, .slice qv mv dv] 52)); have kb := block_cell (block_on KB.out hb1); have G1 := hid (ColsAt.on g1 ((Below.refl _ _).alloc (Nat.le_refl _) (.cells #[.string s.nm, .slice qk mk dk, .slice qv mv dv] 52))); have hlb := lt_of_block (block_on KB.out hb1); clear g1 g2 hb1)
        | (go_at_call 58; refine (rfill_is (HK.out.on HB2.out) G1.out H1.out).mono ?_; rintro e w3 ⟨rfl, hb3⟩))
      go_ret
      exact ⟨ret51 (r := false) HR.out HAT.out (by rw [HS0.out]; exact fit_parts H1.out H2.out rfl rfl) rfl, below_on HB2.out hb3⟩
    | true =>
      cases c with
      | false =>
        go_enter Tryz.func31, Tryz.ntmps31
        go_wp2_with (first
          | (go_at_call 38; refine (HFD.out _ (HV.out.on HB.out)).mono ?_; rintro e w1 ⟨qk, mk, dk, qv, mv, dv, rfl, g1, g2, hb1⟩; have HB1 := hid (below_on HB.out hb1); have HB2 := hid (HB1.out.alloc HB1.out.size (.cells #[.string s.nm, .slice qk mk dk, .slice qv mv dv] 52)); have kb := block_cell (block_on KB.out hb1); have KC := hid (blk_upS (block_on KB.out hb1) (.cells #[.string s.nm, .slice qk mk dk, .slice qv mv dv] 52)); have KD := hid (alloc_block w1 (.cells #[.string s.nm, .slice qk mk dk, .slice qv mv dv] 52)); have G1 := hid (ColsAt.on g1 ((Below.refl _ _).alloc (Nat.le_refl _) (.cells #[.string s.nm, .slice qk mk dk, .slice qv mv dv] 52))); have G2 := hid (ColsAt.on g2 ((Below.refl _ _).alloc (Nat.le_refl _) (.cells #[.string s.nm, .slice qk mk dk, .slice qv mv dv] 52))); have hlb := lt_of_block (block_on KB.out hb1); clear g1 g2 hb1)
          | (go_at_call 58; have FIRST := M1; refine (rfill_is (HK.out.on HB2.out) G1.out H1.out).mono ?_; rintro e w3 ⟨rfl, hb3⟩; have HB3 := hid (below_on HB2.out hb3); have kc3 := block_cell (block_on KC.out hb3); have kd3 := block_cell (block_on KD.out hb3); have G3 := hid (ColsAt.on G2.out hb3); clear hb3 M1 FIRST kb)
          | (go_at_call 58; refine (rfill_is (HW.out.on HB3.out) G3.out H2.out).mono ?_; rintro e w4 ⟨rfl, hb4⟩))
        go_ret
        exact ⟨ret51 (r := false) HR.out HAT.out (by rw [HS0.out]; exact fit_parts H1.out H2.out rfl rfl) rfl, below_on HB3.out hb4⟩
      | true =>
        have key : ∀ (c d : Bool), decide (p.tm < 0) = c → decide (1099511627776 ≤ p.tm) = d → Hid (fitP l[j]! p = (!c && !d)) := fun c d hc hd => by
          show fitP l[j]! p = (!c && !d)
          rw [HS0.out, fit_parts H1.out H2.out (c := !c) (d := !d) (by rw [← hc]; by_cases h : p.tm < 0 <;> simp [h] <;> omega) (by rw [← hd]; by_cases h : 1099511627776 ≤ p.tm <;> simp [h] <;> omega)]; rfl
        by_cases h3 : p.tm < 0
        · have KEY := key true _ (decide_eq_true h3) rfl
          clear key
          go_enter Tryz.func31, Tryz.ntmps31
          go_wp2_with (first
            | (go_at_call 38; refine (HFD.out _ (HV.out.on HB.out)).mono ?_; rintro e w1 ⟨qk, mk, dk, qv, mv, dv, rfl, g1, g2, hb1⟩; have HB1 := hid (below_on HB.out hb1); have HB2 := hid (HB1.out.alloc HB1.out.size (.cells #[.string s.nm, .slice qk mk dk, .slice qv mv dv] 52)); have kb := block_cell (block_on KB.out hb1); have KC := hid (blk_upS (block_on KB.out hb1) (.cells #[.string s.nm, .slice qk mk dk, .slice qv mv dv] 52)); have KD := hid (alloc_block w1 (.cells #[.string s.nm, .slice qk mk dk, .slice qv mv dv] 52)); have G1 := hid (ColsAt.on g1 ((Below.refl _ _).alloc (Nat.le_refl _) (.cells #[.string s.nm, .slice qk mk dk, .slice qv mv dv] 52))); have G2 := hid (ColsAt.on g2 ((Below.refl _ _).alloc (Nat.le_refl _) (.cells #[.string s.nm, .slice qk mk dk, .slice qv mv dv] 52))); have hlb := lt_of_block (block_on KB.out hb1); clear g1 g2 hb1)
            | (go_at_call 58; have FIRST := M1; refine (rfill_is (HK.out.on HB2.out) G1.out H1.out).mono ?_; rintro e w3 ⟨rfl, hb3⟩; have HB3 := hid (below_on HB2.out hb3); have KC3 := hid (block_on KC.out hb3); have kc3 := block_cell KC3.out; have kd3 := block_cell (block_on KD.out hb3); have G3 := hid (ColsAt.on G2.out hb3); clear hb3 M1 FIRST kb)
            | (go_at_call 58; refine (rfill_is (HW.out.on HB3.out) G3.out H2.out).mono ?_; rintro e w4 ⟨rfl, hb4⟩; have HB4 := hid (below_on HB3.out hb4); have kc4 := block_cell (block_on KC3.out hb4); clear hb4 kc3 kd3))
          go_ret
          exact ⟨ret51 (r := false) HR.out HAT.out KEY.out rfl, HB4.out⟩
        · by_cases h4 : 1099511627776 ≤ p.tm
          · have KEY := key false true (decide_eq_false h3) (decide_eq_true h4)
            clear key
            go_enter Tryz.func31, Tryz.ntmps31
            go_wp2_with (first
              | (go_at_call 38; refine (HFD.out _ (HV.out.on HB.out)).mono ?_; rintro e w1 ⟨qk, mk, dk, qv, mv, dv, rfl, g1, g2, hb1⟩; have HB1 := hid (below_on HB.out hb1); have HB2 := hid (HB1.out.alloc HB1.out.size (.cells #[.string s.nm, .slice qk mk dk, .slice qv mv dv] 52)); have kb := block_cell (block_on KB.out hb1); have KC := hid (blk_upS (block_on KB.out hb1) (.cells #[.string s.nm, .slice qk mk dk, .slice qv mv dv] 52)); have KD := hid (alloc_block w1 (.cells #[.string s.nm, .slice qk mk dk, .slice qv mv dv] 52)); have G1 := hid (ColsAt.on g1 ((Below.refl _ _).alloc (Nat.le_refl _) (.cells #[.string s.nm, .slice qk mk dk, .slice qv mv dv] 52))); have G2 := hid (ColsAt.on g2 ((Below.refl _ _).alloc (Nat.le_refl _) (.cells #[.string s.nm, .slice qk mk dk, .slice qv mv dv] 52))); have hlb := lt_of_block (block_on KB.out hb1); clear g1 g2 hb1)
              | (go_at_call 58; have FIRST := M1; refine (rfill_is (HK.out.on HB2.out) G1.out H1.out).mono ?_; rintro e w3 ⟨rfl, hb3⟩; have HB3 := hid (below_on HB2.out hb3); have KC3 := hid (block_on KC.out hb3); have kc3 := block_cell KC3.out; have kd3 := block_cell (block_on KD.out hb3); have G3 := hid (ColsAt.on G2.out hb3); clear hb3 M1 FIRST kb)
              | (go_at_call 58; refine (rfill_is (HW.out.on HB3.out) G3.out H2.out).mono ?_; rintro e w4 ⟨rfl, hb4⟩; have HB4 := hid (below_on HB3.out hb4); have kc4 := block_cell (block_on KC3.out hb4); clear hb4 kc3 kd3))
            go_ret
            exact ⟨ret51 (r := false) HR.out HAT.out KEY.out rfl, HB4.out⟩
          · have KEY := key false false (decide_eq_false h3) (decide_eq_false h4)
            clear key
            go_enter Tryz.func31, Tryz.ntmps31
            go_wp2_with (first
              | (go_at_call 38; refine (HFD.out _ (HV.out.on HB.out)).mono ?_; rintro e w1 ⟨qk, mk, dk, qv, mv, dv, rfl, g1, g2, hb1⟩; have HB1 := hid (below_on HB.out hb1); have HB2 := hid (HB1.out.alloc HB1.out.size (.cells #[.string s.nm, .slice qk mk dk, .slice qv mv dv] 52)); have kb := block_cell (block_on KB.out hb1); have KC := hid (blk_upS (block_on KB.out hb1) (.cells #[.string s.nm, .slice qk mk dk, .slice qv mv dv] 52)); have KD := hid (alloc_block w1 (.cells #[.string s.nm, .slice qk mk dk, .slice qv mv dv] 52)); have G1 := hid (ColsAt.on g1 ((Below.refl _ _).alloc (Nat.le_refl _) (.cells #[.string s.nm, .slice qk mk dk, .slice qv mv dv] 52))); have G2 := hid (ColsAt.on g2 ((Below.refl _ _).alloc (Nat.le_refl _) (.cells #[.string s.nm, .slice qk mk dk, .slice qv mv dv] 52))); have hlb := lt_of_block (block_on KB.out hb1); clear g1 g2 hb1)
              | (go_at_call 58; have FIRST := M1; refine (rfill_is (HK.out.on HB2.out) G1.out H1.out).mono ?_; rintro e w3 ⟨rfl, hb3⟩; have HB3 := hid (below_on HB2.out hb3); have KC3 := hid (block_on KC.out hb3); have kc3 := block_cell KC3.out; have kd3 := block_cell (block_on KD.out hb3); have G3 := hid (ColsAt.on G2.out hb3); clear hb3 M1 FIRST kb)
              | (go_at_call 58; refine (rfill_is (HW.out.on HB3.out) G3.out H2.out).mono ?_; rintro e w4 ⟨rfl, hb4⟩; have HB4 := hid (below_on HB3.out hb4); have kc4 := block_cell (block_on KC3.out hb4); clear hb4 kc3 kd3))
            go_ret
            exact ⟨ret51 (r := true) HR.out HAT.out KEY.out rfl, HB4.out⟩
end Go.Proofs.YtlbjbkhcnafhcaaGreat
