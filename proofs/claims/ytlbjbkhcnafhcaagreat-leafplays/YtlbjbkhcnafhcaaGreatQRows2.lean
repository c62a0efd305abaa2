/-
  What table.compareRows returns, for every two rows.
-/
import Derived.Test.YtlbjbkhcnafhcaaGreatP06Shelf
namespace Go.Proofs.YtlbjbkhcnafhcaaGreat
open Go.RowKit Go.Sort Go.Shelf

theorem cmpR_step {r q : Rw} {k : Nat} (h1 : k < r.length) (h2 : k < q.length) : cmpR (r.drop k) (q.drop k) = thn (cmpL r[k]! q[k]!) (cmpR (r.drop (k + 1)) (q.drop (k + 1))) := by
  have e1 : r[k]! = r[k] := by rw [List.getElem!_eq_getElem?_getD, List.getElem?_eq_getElem h1]; rfl
  have e2 : q[k]! = q[k] := by rw [List.getElem!_eq_getElem?_getD, List.getElem?_eq_getElem h2]; rfl
  rw [List.drop_eq_getElem_cons h1, List.drop_eq_getElem_cons h2, e1, e2]; rfl
theorem cmpR_longer {r q : Rw} {k : Nat} (h1 : k < r.length) (h2 : q.length ≤ k) : cmpR (r.drop k) (q.drop k) = 1 := by
  rw [List.drop_eq_getElem_cons h1, List.drop_eq_nil_of_le h2]; rfl
theorem cmpR_shorter {r q : Rw} {k : Nat} (h1 : r.length ≤ k) (h2 : k < q.length) : cmpR (r.drop k) (q.drop k) = -1 := by
  rw [List.drop_eq_getElem_cons h2, List.drop_eq_nil_of_le h1]; rfl
theorem cmpR_ends {r q : Rw} {k : Nat} (h1 : r.length ≤ k) (h2 : q.length ≤ k) : cmpR (r.drop k) (q.drop k) = 0 := by
  rw [List.drop_eq_nil_of_le h2, List.drop_eq_nil_of_le h1]; rfl
theorem compare_is {x y : Vl} {c : Int} {w : World} (h : cmpL x y = c) : Calls Tryz.prog 113 #[x.val, y.val] w fun e w' => e = .returned (.int .i64 c) ∧ Grew w w' := by rw [← h]; exact compare_any
set_option maxHeartbeats 1000000 in
theorem compFunc_any {u v : Value} {r q : Rw} {w : World} (hu : RowAt w u r) (hv : RowAt w v q) :
    Calls Tryz.prog 112 #[u, v, .func (.func 113) #[] #[]] w fun e w' => e = .returned (.int .i64 (cmpR r q)) ∧ Grew w w' := by
  obtain ⟨p, cap, rfl, hcap, hmax, hx⟩ := hu
  obtain ⟨p', cap', rfl, hcap', hmax', hx'⟩ := hv
  unfold maxLen at hmax hmax'
  have eg : ∀ args w, (callFunc 113 args).run Tryz.prog w = .ok (.enter 113 args) w := enters_of Tryz.func113 (by kernel_rfl) rfl
  generalize hr : cmpR r q = res
  have HR := hid hr
  have HX := hid hx
  have HX' := hid hx'
  clear hr hx hx'
  generalize hn : r.length = n at *
  generalize hn' : q.length = m at *
  have HN := hid hn
  have HN' := hid hn'
  clear hn hn'
  go_enter Tryz.func112, Tryz.ntmps112
  go_wp2
  go_loopw [13] (fun i wr => ∃ k : Nat, k ≤ n ∧ k ≤ m ∧ i = .int .i64 k ∧ Hid (Grew w wr) ∧ Hid (cmpR (r.drop k) (q.drop k) = res)) (fun i _ => n - (intOf i).toNat)
  case atStart => exact ⟨0, by omega, by omega, rfl, Grew.refl _, HR.out⟩
  case round =>
    obtain ⟨k, hk, hk', rfl, HG, HD⟩ := hrel
    by_cases hlt : k < n
    · have hkr : k < r.length := by rw [HN.out]; exact hlt
      obtain ⟨b, o, rfl, -, hj⟩ := HX.out (by intro e; subst e; simp at hkr)
      obtain ⟨c0, c1, c2, c3, c4, c5, c6, c7, c8, c9, c10⟩ := val_cells ((hj k _ (get!_some hkr)).on HG.out.below)
      have hb0 := block_lt_of_cell c0
      generalize hvv : r[k]! = x at c0 c1 c2 c3 c4 c5 c6 c7 c8 c9 c10
      have HVV := hid hvv
      clear hvv hj
      by_cases hlt' : k < m
      · have hkq : k < q.length := by rw [HN'.out]; exact hlt'
        obtain ⟨b', o', rfl, -, hj'⟩ := HX'.out (by intro e; subst e; simp at hkq)
        obtain ⟨d0, d1, d2, d3, d4, d5, d6, d7, d8, d9, d10⟩ := val_cells ((hj' k _ (get!_some hkq)).on HG.out.below)
        have hb0' := block_lt_of_cell d0
        generalize hvv : q[k]! = y at d0 d1 d2 d3 d4 d5 d6 d7 d8 d9 d10
        have HVV' := hid hvv
        clear hvv hj'
        have hnge : ¬ (m : Int) ≤ (k : Int) := by omega
        have HS := hid (cmpR_step hkr hkq)
        rw [HVV.out, HVV'.out] at HS
        by_cases hz : cmpL x y = 0
        · go_wp2_with (first | (go_at_fn 113; refine (compare_is hz).mono ?_; rintro e w2 ⟨rfl, hg2⟩))
          go_roundw
          case rel =>
            refine ⟨k + 1, by omega, by omega, by go_num, ((HG.out.alloc _).alloc _).trans hg2, ?_⟩
            have := HS.out
            rw [HD.out, thn_zero (by simp [hz])] at this
            exact this.symm
          case measure => simp [intOf]; omega
        · generalize hcv : cmpL x y = cv at *
          have hcz : (cv != 0) = true := by simpa using hz
          have HZ := hid hz
          have HCV := hid hcv
          clear hz hcv
          go_wp2_with (first | (go_at_fn 113; refine (compare_is HCV.out).mono ?_; rintro e w2 ⟨rfl, hg2⟩))
          go_ret
          refine ⟨ret_int ?_, ((HG.out.alloc _).alloc _).trans hg2⟩
          have := HS.out
          rw [HD.out, thn_ne hcz] at this
          exact this.symm
      · have hge : (m : Int) ≤ (k : Int) := by omega
        go_wp2
        go_ret
        exact ⟨ret_int ((cmpR_longer hkr (by rw [HN'.out]; omega)).symm.trans HD.out), HG.out.alloc _⟩
    · have hks : k = n := by omega
      subst hks
      by_cases hlt' : k < m
      · go_wp2
        go_ret
        exact ⟨ret_int ((cmpR_shorter (by rw [HN.out]; omega) (by rw [HN'.out]; omega)).symm.trans HD.out), HG.out⟩
      · have hkm : k = m := by omega
        subst hkm
        go_wp2
        go_ret
        exact ⟨ret_int ((cmpR_ends (by rw [HN.out]; omega) (by rw [HN'.out]; omega)).symm.trans HD.out), HG.out⟩
theorem compareRows_any {u v : Value} {r q : Rw} {w : World} (hu : RowAt w u r) (hv : RowAt w v q) :
    Calls Tryz.prog 90 #[u, v] w fun e w' => e = .returned (.int .i64 (cmpR r q)) ∧ Grew w w' := by
  have HC := hid (compFunc_any hu hv)
  clear hu hv
  generalize cmpR r q = res at *
  go_enter Tryz.func90, Tryz.ntmps90
  go_wp2_with (go_at_call 112; refine HC.out.mono ?_; rintro e w2 ⟨rfl, hg2⟩)
  go_ret
  exact ⟨rfl, hg2⟩
end Go.Proofs.YtlbjbkhcnafhcaaGreat
