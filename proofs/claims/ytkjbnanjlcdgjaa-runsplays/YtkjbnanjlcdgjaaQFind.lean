/-
  What find of package runs returns: where a moment's sample stands, or would.
-/
import Derived.Test.YtkjbnanjlcdgjaaQRun
import Derived.Shelf.Abstract
namespace Go.Proofs.Ytkjbnanjlcdgjaa
open Go.RowKit Go.Sort Go.Shelf

def cmpI (a b : Int) : Int := if a < b then -1 else if b < a then 1 else 0
set_option maxRecDepth 100000 in
set_option maxHeartbeats 400000 in
theorem compare_any {a b : Int} {w : World} : Calls Try.prog 29 #[.int .i64 a, .int .i64 b] w fun e w' => e = .returned (.int .i64 (cmpI a b)) ∧ w' = w := by
  unfold cmpI
  by_cases h1 : a < b
  · rw [if_pos h1]
    go_enter Try.func29, Try.ntmps29
    go_wp2
    go_ret
    exact ⟨rfl, rfl⟩
  · rw [if_neg h1]
    by_cases h2 : b < a
    · rw [if_pos h2]
      go_enter Try.func29, Try.ntmps29
      go_wp2
      go_ret
      exact ⟨rfl, rfl⟩
    · rw [if_neg h2]
      go_enter Try.func29, Try.ntmps29
      go_wp2
      go_ret
      exact ⟨rfl, rfl⟩
set_option maxRecDepth 100000 in
set_option maxHeartbeats 400000 in
theorem find2_any {t at' : Int} {kv : Value} {w : World} : Calls Try.prog 28 #[.agg #[.int .i64 t, kv], .int .i64 at'] w fun e w' => e = .returned (.int .i64 (cmpI t at')) ∧ Below w.heap.size w w' := by
  go_enter Try.func28, Try.ntmps28
  go_wp2_with (go_at_call 29; refine compare_any.mono ?_; rintro e w1 ⟨rfl, rfl⟩)
  go_ret
  exact ⟨rfl, (Below.refl _ _).alloc (Nat.le_refl _) _⟩
theorem cmpI_lt {a b : Int} : (cmpI a b < 0) ↔ a < b := by
  unfold cmpI
  by_cases h : a < b
  · simp [h]
  · by_cases h2 : b < a <;> simp [h, h2]
theorem cmpI_eq {a b : Int} : (cmpI a b = 0) ↔ a = b := by
  unfold cmpI
  by_cases h : a < b
  · simp [h]; omega
  · by_cases h2 : b < a <;> simp [h, h2] <;> omega
theorem enters28 : ∀ args w, (callFunc 28 args).run Try.prog w = .ok (.enter 28 args) w := enters_of Try.func28 (by kernel_rfl) rfl
set_option maxRecDepth 100000 in
set_option maxHeartbeats 2000000 in
theorem bsf_any {B : Nat} {P : Nat → Prop} {w : World} {pv : Value} {hs : List Sh} {l : List Sp} {at' : Int} (ho : Own Sh.cells 2 32 B w pv hs) (hh : HeadsS P w hs l) (hlen : l.length ≤ 1000) (hu : Up l) :
    Calls Try.prog 27 #[pv, .int .i64 at', .func (.func 28) #[] #[]] w fun e w' => e = .returned (.tuple #[.int .i64 (posT at' l : Nat), .bool (hasT l at')]) ∧ Below w.heap.size w w' := by
  obtain ⟨p, c, rfl, hcap, hx⟩ := own_sl ho hh hlen
  have HX := hid hx
  have HU := hid hu
  clear hx hu ho hh
  generalize hn : l.length = n at *
  have HN := hid hn
  clear hn
  generalize hpp : posT at' l = pp
  generalize hqq : hasT l at' = qq
  have HPP := hid hpp
  have HQQ := hid hqq
  clear hpp hqq
  go_enter Try.func27, Try.ntmps27
  go_wp2
  go_loopw [9, 10] (fun iv jv wr => ∃ lo hi : Nat, iv = .int .i64 lo ∧ jv = .int .i64 hi ∧ lo ≤ hi ∧ hi ≤ n ∧ Hid (∀ j s, j < lo → l[j]? = some s → s.t < at') ∧ Hid (∀ j s, hi ≤ j → l[j]? = some s → at' ≤ s.t) ∧ Hid (Below w.heap.size w wr)) (fun iv jv _ => (intOf jv - intOf iv).toNat)
  case atStart => exact ⟨0, n, rfl, rfl, Nat.zero_le _, Nat.le_refl _, (fun j s h _ => absurd h (Nat.not_lt_zero _)), (fun j s h hs => by have := (List.getElem?_eq_some_iff.1 hs).1; have := HN.out; omega), Below.refl _ _⟩
  case round =>
    obtain ⟨lo, hi, rfl, rfl, hlh, hin, HA, HC, HB⟩ := hrel
    obtain ⟨W1, hW1⟩ : ∃ W, W = wr := ⟨wr, rfl⟩
    subst hW1
    by_cases hlt : lo < hi
    · obtain ⟨m, hm⟩ : ∃ m, m = (lo + hi) / 2 := ⟨_, rfl⟩
      have hmi : ((lo : Int) + (hi : Int)).fdiv (2 ^ min (Int.toNat 1) IntKind.u64.bits) = (m : Int) := by show Int.fdiv _ 2 = _; rw [Int.fdiv_eq_ediv_of_nonneg _ (by omega)]; omega
      have hml : m < n := by omega
      have hm' : m < l.length := by rw [HN.out]; exact hml
      obtain ⟨s, hs⟩ : ∃ s, l[m]? = some s := ⟨l[m], List.getElem?_eq_getElem hm'⟩
      obtain ⟨g, o, kp, kc, rfl, c0, c1, -⟩ := HX.out m s hs
      have d0 := cell_onB c0 HB.out
      have d1 := cell_onB c1 HB.out
      have HS := hid hs
      have HM := hid hm
      rw [hm] at d0 d1 hmi
      clear c0 c1 hs hm
      by_cases hc : s.t < at'
      · have hc' := cmpI_lt.2 hc
        go_wp2_with (first | (go_at_call 28; refine find2_any.mono ?_; rintro e w2 ⟨rfl, hb2⟩; have HB2 := hid hb2; clear hb2))
        go_roundw
        case rel =>
          have hm := HM.out
          refine ⟨m + 1, hi, by rw [hm]; go_num, rfl, by omega, hin, fun j x hj hx => ?_, HC.out, HB.out.trans (HB2.out.mono HB.out.size)⟩
          by_cases e : j = m
          · subst e; rw [HS.out] at hx; cases hx; exact hc
          · by_cases e2 : j < m
            · have := up_lt HU.out e2 hx HS.out; omega
            · omega
        case measure => simp [intOf]; omega
      · have hc' : ¬ cmpI s.t at' < 0 := fun h => hc (cmpI_lt.1 h)
        go_wp2_with (first | (go_at_call 28; refine find2_any.mono ?_; rintro e w2 ⟨rfl, hb2⟩; have HB2 := hid hb2; clear hb2))
        go_roundw
        case rel =>
          have hm := HM.out
          refine ⟨lo, m, rfl, by rw [hm]; go_num, by omega, by omega, HA.out, fun j x hj hx => ?_, HB.out.trans (HB2.out.mono HB.out.size)⟩
          by_cases e : j = m
          · subst e; rw [HS.out] at hx; cases hx; omega
          · have := up_lt HU.out (show m < j by omega) HS.out hx; omega
        case measure => simp [intOf]; omega
    · obtain rfl : lo = hi := by omega
      have hpos : posT at' l = lo := posT_of (by rw [HN.out]; exact hin) HA.out (fun s hs => HC.out lo s (Nat.le_refl _) hs)
      obtain rfl : lo = pp := hpos.symm.trans HPP.out
      by_cases hln : lo < n
      · have hm' : lo < l.length := by rw [HN.out]; exact hln
        obtain ⟨s, hs⟩ : ∃ s, l[lo]? = some s := ⟨l[lo], List.getElem?_eq_getElem hm'⟩
        obtain ⟨g, o, kp, kc, rfl, c0, c1, -⟩ := HX.out lo s hs
        have d0 := cell_onB c0 HB.out
        have d1 := cell_onB c1 HB.out
        have hht : hasT l at' = (cmpI s.t at' == 0) := by
          by_cases e : s.t = at'
          · rw [hasT_of hs e, (cmpI_eq).2 e]; rfl
          · rw [hasT_none HU.out (fun x hx => by rw [hpos, hs] at hx; cases hx; exact e)]
            have : ¬ cmpI s.t at' = 0 := fun h => e (cmpI_eq.1 h)
            simp [this]
        rw [HQQ.out] at hht
        subst hht
        clear c0 c1 hs hpos
        go_wp2_with (first | (go_at_call 28; refine find2_any.mono ?_; rintro e w2 ⟨rfl, hb2⟩; have HB2 := hid hb2; clear hb2))
        go_ret2
        exact ⟨rfl, HB.out.trans (HB2.out.mono HB.out.size)⟩
      · have hht : hasT l at' = false := hasT_none HU.out (fun x hx => by have := (List.getElem?_eq_some_iff.1 hx).1; rw [hpos, HN.out] at this; exact absurd this hln)
        rw [HQQ.out] at hht
        subst hht
        clear hpos
        go_wp2
        go_ret2
        exact ⟨rfl, HB.out⟩
end Go.Proofs.Ytkjbnanjlcdgjaa
