/-
  What the statements' same returns, for any two rows of samples.
-/
import Derived.Test.YtkjbnanjlcdgjaaQVals
namespace Go.Proofs.Ytkjbnanjlcdgjaa
open Go.RowKit Go.Sort Go.Shelf

/- Samples as a slice. -/
def Smp (w : World) (v : Value) (L : List Sp) : Prop := ∃ p c, v = .slice p L.length c ∧ L.length ≤ c ∧ ∀ (j : Nat) s, L[j]? = some s → ∃ g o kp kc, p = some ⟨g, o, none⟩ ∧ w.cell? ⟨g, o + j * 2, none⟩ = some (.int .i64 s.t) ∧ w.cell? ⟨g, o + j * 2 + 1, none⟩ = some (.slice kp (List.length s.vs) kc) ∧ RowAt w (.slice kp (List.length s.vs) kc) s.vs
theorem Smp.on {w w' : World} {v : Value} {L : List Sp} (h : Smp w v L) (hb : Below w.heap.size w w') : Smp w' v L := by
  obtain ⟨p, c, hv, hc, hx⟩ := h
  refine ⟨p, c, hv, hc, fun j s hj => ?_⟩
  obtain ⟨g, o, kp, kc, hp, c0, c1, hr⟩ := hx j s hj
  exact ⟨g, o, kp, kc, hp, cell_onB c0 hb, cell_onB c1 hb, hr.on hb⟩
theorem own_smp {B : Nat} {P : Nat → Prop} {w : World} {v : Value} {hs : List Sh} {L : List Sp} (ho : Own Sh.cells 2 32 B w v hs) (hh : HeadsS P w hs L) (hl : L.length ≤ 1000) : Smp w v L := by
  obtain ⟨p, c, hv, hc, hx⟩ := own_sl ho hh hl
  refine ⟨p, c, hv, hc, fun j s hj => ?_⟩
  obtain ⟨g, o, kp, kc, hp, c0, c1, hr⟩ := hx j s hj
  exact ⟨g, o, kp, kc, hp, c0, c1, hr.at⟩
theorem vals_is {u v : Value} {r q : Rw} {w : World} {c : Bool} (hu : RowAt w u r) (hv : RowAt w v q) (h : decide (r = q) = c) : Calls Try.prog 13 #[u, v] w fun e w' => e = .returned (.bool c) ∧ Below w.heap.size w w' := by rw [← h]; exact vals_any hu hv
theorem smps_eq {L M : List Sp} {n : Nat} (h1 : L.length = n) (h2 : M.length = n) (h : ∀ j, j < n → L[j]? = M[j]?) : L = M := by
  apply List.ext_getElem?
  intro j
  by_cases hj : j < n
  · exact h j hj
  · rw [List.getElem?_eq_none (by omega), List.getElem?_eq_none (by omega)]
theorem sp_eq {x y : Sp} (h1 : x.t = y.t) (h2 : x.vs = y.vs) : x = y := by cases x; cases y; simp at h1 h2; rw [h1, h2]
set_option maxRecDepth 100000 in
set_option maxHeartbeats 2000000 in
theorem same_any {u v : Value} {L M : List Sp} {w : World} (hu : Smp w u L) (hv : Smp w v M) (hl : L.length ≤ 1000) (hm : M.length ≤ 1000) :
    Calls Try.prog 16 #[u, v] w fun e w' => e = .returned (.bool (decide (L = M))) ∧ Below w.heap.size w w' := by
  obtain ⟨p, cap, rfl, hcap, hx⟩ := hu
  obtain ⟨p', cap', rfl, hcap', hx'⟩ := hv
  have HX := hid hx
  have HX' := hid hx'
  clear hx hx'
  generalize hn : L.length = n at *
  generalize hn' : M.length = m at *
  have HN := hid hn
  have HN' := hid hn'
  clear hn hn'
  by_cases hl : n = m
  · subst hl
    go_enter Try.func16, Try.ntmps16
    go_wp2
    go_loopw [5, 6] (fun i ov wr => ∃ k : Nat, k ≤ n ∧ i = .int .i64 k ∧ Hid (Below w.heap.size w wr) ∧ Hid (∀ j, j < k → L[j]? = M[j]?)) (fun i _ _ => n - (intOf i).toNat)
    case atStart => exact ⟨0, by omega, rfl, Below.refl _ _, fun j h => absurd h (Nat.not_lt_zero _)⟩
    case round =>
      obtain ⟨k, hk, rfl, HB, HA⟩ := hrel
      obtain ⟨W1, hW1⟩ : ∃ W, W = wr := ⟨wr, rfl⟩
      subst hW1
      by_cases hlt : k < n
      · have hkr : k < L.length := by rw [HN.out]; exact hlt
        have hkq : k < M.length := by rw [HN'.out]; exact hlt
        obtain ⟨x, hxk⟩ : ∃ x, L[k]? = some x := ⟨L[k], List.getElem?_eq_getElem hkr⟩
        obtain ⟨y, hyk⟩ : ∃ y, M[k]? = some y := ⟨M[k], List.getElem?_eq_getElem hkq⟩
        obtain ⟨g, o, kp, kc, rfl, c0, c1, hr⟩ := HX.out k x hxk
        obtain ⟨g', o', kp', kc', rfl, c0', c1', hr'⟩ := HX'.out k y hyk
        have d0 := cell_onB c0 HB.out
        have d1 := cell_onB c1 HB.out
        have d0' := cell_onB c0' HB.out
        have d1' := cell_onB c1' HB.out
        have HR := hid (hr.on HB.out)
        have HR' := hid (hr'.on HB.out)
        have HXK := hid hxk
        have HYK := hid hyk
        clear c0 c1 c0' c1' hr hr' hxk hyk
        generalize List.length x.vs = nx at *
        generalize List.length y.vs = ny at *
        by_cases ht : x.t = y.t
        · have z0 := cell_regrown d0
          have z1 := cell_regrown d1
          have z0' := cell_regrown d0'
          have z1' := cell_regrown d1'
          have hb : (x.t == y.t) = true := by simpa using ht
          have HT := hid ht
          generalize hcc : decide (x.vs = y.vs) = cc
          have HCC := hid hcc
          clear hcc
          have HRg : ∀ d os, Hid (RowAt (grow (redrawn W1 d) os) (.slice kp nx kc) x.vs) := fun d os => HR.out.on (below_regrown W1 d os)
          have HRg' : ∀ d os, Hid (RowAt (grow (redrawn W1 d) os) (.slice kp' ny kc') y.vs) := fun d os => HR'.out.on (below_regrown W1 d os)
          clear ht
          go_upto_region 6 with fail
          refine wp_region_quiet_below (by kernel_rfl) (by kernel_rfl) ?_
          repeat (go_big_quiet_step (first | (go_at_call 13; exact Calls.regrown_of (vals_is (HRg _ _).out (HRg' _ _).out HCC.out))))
          refine wpQuiet_nil ?_
          intro _ hw'
          obtain ⟨⟨dq, osq⟩, hw''⟩ := hw'
          subst hw''
          have HB4 := hid (HB.out.trans ((below_regrown W1 dq osq).mono HB.out.size))
          clear z0 z1 z0' z1' HRg HRg' d0 d1 d0' d1'
          cases cc with
          | true =>
            go_wp2
            go_roundw
            case rel =>
              refine ⟨k + 1, by omega, by go_num, HB4.out, fun j hj => ?_⟩
              by_cases e : j = k
              · subst e; rw [HXK.out, HYK.out, sp_eq HT.out (of_decide_eq_true HCC.out)]
              · exact HA.out j (by omega)
            case measure => simp [intOf]; omega
          | false =>
            go_wp2
            go_ret
            exact ⟨ret_bool (decide_eq_false (fun e => of_decide_eq_false HCC.out (by have h1 := HXK.out; rw [e, HYK.out] at h1; rw [Option.some.inj h1]))).symm, HB4.out⟩
        · have hb : (x.t == y.t) = false := by simpa using ht
          have HT := hid ht
          clear ht
          go_wp2_with fail
          go_quiet (fail)
          go_wp2
          go_ret
          exact ⟨ret_bool (decide_eq_false (fun e => HT.out (by have h1 := HXK.out; rw [e, HYK.out] at h1; rw [Option.some.inj h1]))).symm, below_drewN HB.out _⟩
      · have hks : k = n := by omega
        subst hks
        go_wp2
        go_ret
        exact ⟨ret_bool (decide_eq_true (smps_eq HN.out HN'.out HA.out)).symm, HB.out⟩
  · have hne : ((n : Int) != (m : Int)) = true := by simp; omega
    go_enter Try.func16, Try.ntmps16
    go_wp2
    go_ret
    exact ⟨ret_bool (decide_eq_false (fun e => hl (by rw [← HN.out, ← HN'.out, e]))).symm, Below.refl _ _⟩
theorem same_is {u v : Value} {L M : List Sp} {w : World} {c : Bool} (hu : Smp w u L) (hv : Smp w v M) (hl : L.length ≤ 1000) (hm : M.length ≤ 1000) (h : decide (L = M) = c) : Calls Try.prog 16 #[u, v] w fun e w' => e = .returned (.bool c) ∧ Below w.heap.size w w' := by rw [← h]; exact same_any hu hv hl hm
end Go.Proofs.Ytkjbnanjlcdgjaa
