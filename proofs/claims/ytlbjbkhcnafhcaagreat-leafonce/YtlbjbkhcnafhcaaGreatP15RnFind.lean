/-
  What find of package runs returns: where a moment's sample stands, or would.
  What find of package runs returns: where a moment's sample stands, or would.
  What copy does, of elements of some cells each, and what two copies leave.
  What Go's slices.Insert returns, of one sample into a row of samples: at its end.
-/
import Derived.Test.YtlbjbkhcnafhcaaGreatP14XOf
import Derived.Test.YtlbjbkhcnafhcaaGreatP12XMem
import Derived.Shelf.Abstract
import Derived.Lib.QuietBelow
import Derived.Laws.CopyOwn
namespace Go.Proofs.YtlbjbkhcnafhcaaGreat.RN
open Go.RowKit Go.Sort Go.Shelf

def cmpI (a b : Int) : Int := if a < b then -1 else if b < a then 1 else 0
set_option maxRecDepth 100000 in
set_option maxHeartbeats 400000 in
theorem compare_any {a b : Int} {w : World} : Calls Tryz.prog 83 #[.int .i64 a, .int .i64 b] w fun e w' => e = .returned (.int .i64 (cmpI a b)) ∧ w' = w := by
  unfold cmpI
  by_cases h1 : a < b
  · rw [if_pos h1]
    go_enter Tryz.func83, Tryz.ntmps83
    go_wp2
    go_ret
    exact ⟨rfl, rfl⟩
  · rw [if_neg h1]
    by_cases h2 : b < a
    · rw [if_pos h2]
      go_enter Tryz.func83, Tryz.ntmps83
      go_wp2
      go_ret
      exact ⟨rfl, rfl⟩
    · rw [if_neg h2]
      go_enter Tryz.func83, Tryz.ntmps83
      go_wp2
      go_ret
      exact ⟨rfl, rfl⟩
set_option maxRecDepth 100000 in
set_option maxHeartbeats 400000 in
theorem find2_any {t at' : Int} {kv : Value} {w : World} : Calls Tryz.prog 82 #[.agg #[.int .i64 t, kv], .int .i64 at'] w fun e w' => e = .returned (.int .i64 (cmpI t at')) ∧ Below w.heap.size w w' := by
  go_enter Tryz.func82, Tryz.ntmps82
  go_wp2_with (go_at_call 83; refine compare_any.mono ?_; rintro e w1 ⟨rfl, rfl⟩)
  go_ret
  exact ⟨rfl, (Below.refl _ _).alloc (Nat.le_refl _) _⟩
theorem cmpI_lt {a b : Int} : (cmpI a b < 0) ↔ a < b := by
  unfold cmpI
  by_cases h : a < b
  · simp [h]
  · by_cases h2 : b < a <;> simp [h, h2]
theorem cmpI_eq {a b : Int} : (cmpI a b = 0) ↔ a = b := by
  unfold cmpI
  by_cases h : a < b
  · simp [h]; omega
  · by_cases h2 : b < a <;> simp [h, h2] <;> omega
theorem enters28 : ∀ args w, (callFunc 82 args).run Tryz.prog w = .ok (.enter 82 args) w := enters_of Tryz.func82 (by kernel_rfl) rfl
set_option maxRecDepth 100000 in
set_option maxHeartbeats 2000000 in
theorem bsf_any {B : Nat} {P : Nat → Prop} {w : World} {pv : Value} {hs : List Sh} {l : List Sp} {at' : Int} (ho : Own Sh.cells 2 105 B w pv hs) (hh : HeadsS P w hs l) (hlen : l.length ≤ 1000) (hu : Up l) :
    Calls Tryz.prog 81 #[pv, .int .i64 at', .func (.func 82) #[] #[]] w fun e w' => e = .returned (.tuple #[.int .i64 (posT at' l : Nat), .bool (hasT l at')]) ∧ Below w.heap.size w w' := by
  obtain ⟨p, c, rfl, hcap, hx⟩ := own_sl ho hh hlen
  have HX := hid hx
  have HU := hid hu
  clear hx hu ho hh
  generalize hn : l.length = n at *
  have HN := hid hn
  clear hn
  generalize hpp : posT at' l = pp
  generalize hqq : hasT l at' = qq
  have HPP := hid hpp
  have HQQ := hid hqq
  clear hpp hqq
  go_enter Tryz.func81, Tryz.ntmps81
  go_wp2
  go_loopw [9, 10] (fun iv jv wr => ∃ lo hi : Nat, iv = .int .i64 lo ∧ jv = .int .i64 hi ∧ lo ≤ hi ∧ hi ≤ n ∧ Hid (∀ j s, j < lo → l[j]? = some s → s.t < at') ∧ Hid (∀ j s, hi ≤ j → l[j]? = some s → at' ≤ s.t) ∧ Hid (Below w.heap.size w wr)) (fun iv jv _ => (intOf jv - intOf iv).toNat)
  case atStart => exact ⟨0, n, rfl, rfl, Nat.zero_le _, Nat.le_refl _, (fun j s h _ => absurd h (Nat.not_lt_zero _)), (fun j s h hs => by have := (List.getElem?_eq_some_iff.1 hs).1; have := HN.out; omega), Below.refl _ _⟩
  case round =>
    obtain ⟨lo, hi, rfl, rfl, hlh, hin, HA, HC, HB⟩ := hrel
    obtain ⟨W1, hW1⟩ : ∃ W, W = wr := ⟨wr, rfl⟩
    subst hW1
    by_cases hlt : lo < hi
    · obtain ⟨m, hm⟩ : ∃ m, m = (lo + hi) / 2 := ⟨_, rfl⟩
      have hmi : ((lo : Int) + (hi : Int)).fdiv (2 ^ min (Int.toNat 1) IntKind.u64.bits) = (m : Int) := by show Int.fdiv _ 2 = _; rw [Int.fdiv_eq_ediv_of_nonneg _ (by omega)]; omega
      have hml : m < n := by omega
      have hm' : m < l.length := by rw [HN.out]; exact hml
      obtain ⟨s, hs⟩ : ∃ s, l[m]? = some s := ⟨l[m], List.getElem?_eq_getElem hm'⟩
      obtain ⟨g, o, kp, kc, rfl, c0, c1, -⟩ := HX.out m s hs
      have d0 := cell_onB c0 HB.out
      have d1 := cell_onB c1 HB.out
      have HS := hid hs
      have HM := hid hm
      rw [hm] at d0 d1 hmi
      clear c0 c1 hs hm
      by_cases hc : s.t < at'
      · have hc' := cmpI_lt.2 hc
        go_wp2_with (first | (go_at_call 82; refine find2_any.mono ?_; rintro e w2 ⟨rfl, hb2⟩; have HB2 := hid hb2; clear hb2))
        go_roundw
        case rel =>
          have hm := HM.out
          refine ⟨m + 1, hi, by rw [hm]; go_num, rfl, by omega, hin, fun j x hj hx => ?_, HC.out, HB.out.trans (HB2.out.mono HB.out.size)⟩
          by_cases e : j = m
          · subst e; rw [HS.out] at hx; cases hx; exact hc
          · by_cases e2 : j < m
            · have := up_lt HU.out e2 hx HS.out; omega
            · omega
        case measure => simp [intOf]; omega
      · have hc' : ¬ cmpI s.t at' < 0 := fun h => hc (cmpI_lt.1 h)
        go_wp2_with (first | (go_at_call 82; refine find2_any.mono ?_; rintro e w2 ⟨rfl, hb2⟩; have HB2 := hid hb2; clear hb2))
        go_roundw
        case rel =>
          have hm := HM.out
          refine ⟨lo, m, rfl, by rw [hm]; go_num, by omega, by omega, HA.out, fun j x hj hx => ?_, HB.out.trans (HB2.out.mono HB.out.size)⟩
          by_cases e : j = m
          · subst e; rw [HS.out] at hx; cases hx; omega
          · have := up_lt HU.out (show m < j by omega) HS.out hx; omega
        case measure => simp [intOf]; omega
    · obtain rfl : lo = hi := by omega
      have hpos : posT at' l = lo := posT_of (by rw [HN.out]; exact hin) HA.out (fun s hs => HC.out lo s (Nat.le_refl _) hs)
      obtain rfl : lo = pp := hpos.symm.trans HPP.out
      by_cases hln : lo < n
      · have hm' : lo < l.length := by rw [HN.out]; exact hln
        obtain ⟨s, hs⟩ : ∃ s, l[lo]? = some s := ⟨l[lo], List.getElem?_eq_getElem hm'⟩
        obtain ⟨g, o, kp, kc, rfl, c0, c1, -⟩ := HX.out lo s hs
        have d0 := cell_onB c0 HB.out
        have d1 := cell_onB c1 HB.out
        have hht : hasT l at' = (cmpI s.t at' == 0) := by
          by_cases e : s.t = at'
          · rw [hasT_of hs e, (cmpI_eq).2 e]; rfl
          · rw [hasT_none HU.out (fun x hx => by rw [hpos, hs] at hx; cases hx; exact e)]
            have : ¬ cmpI s.t at' = 0 := fun h => e (cmpI_eq.1 h)
            simp [this]
        rw [HQQ.out] at hht
        subst hht
        clear c0 c1 hs hpos
        go_wp2_with (first | (go_at_call 82; refine find2_any.mono ?_; rintro e w2 ⟨rfl, hb2⟩; have HB2 := hid hb2; clear hb2))
        go_ret2
        exact ⟨rfl, HB.out.trans (HB2.out.mono HB.out.size)⟩
      · have hht : hasT l at' = false := hasT_none HU.out (fun x hx => by have := (List.getElem?_eq_some_iff.1 hx).1; rw [hpos, HN.out] at this; exact absurd this hln)
        rw [HQQ.out] at hht
        subst hht
        clear hpos
        go_wp2
        go_ret2
        exact ⟨rfl, HB.out⟩
end Go.Proofs.YtlbjbkhcnafhcaaGreat.RN
namespace Go.Proofs.YtlbjbkhcnafhcaaGreat.RN
open Go.RowKit Go.Sort Go.Shelf

/- A run that has samples, opened. -/
structure Rv (P : Nat → Prop) (w : World) (b g c g2 c2 : Nat) (l : List Sp) : Prop where
  k0 : w.cell? ⟨b, 0, none⟩ = some (.slice (some ⟨g, 0, none⟩) 1 c)
  k1 : w.cell? ⟨g, 0, none⟩ = some (.slice (some ⟨g2, 0, none⟩) l.length c2)
  hc : 1 ≤ c
  hc2 : l.length ≤ c2
  sm : ∀ (j : Nat) s, l[j]? = some s → ∃ kp kc, w.cell? ⟨g2, j * 2, none⟩ = some (.int .i64 s.t) ∧ w.cell? ⟨g2, j * 2 + 1, none⟩ = some (.slice kp (List.length s.vs) kc) ∧ RowIn (ty36 P w) w (.slice kp (List.length s.vs) kc) s.vs
theorem rk_view {B : Nat} {P : Nat → Prop} {w : World} {b : Nat} {sv pv : Value} {l : List Sp} (h : Rk B P w b sv pv l) (hlen : l.length ≤ 1000) (hne : l ≠ []) :
    ∃ g c g2 c2, sv = .slice (some ⟨g, 0, none⟩) 1 c ∧ pv = .slice (some ⟨g2, 0, none⟩) l.length c2 ∧ Rv P w b g c g2 c2 l := by
  obtain ⟨hs, ho, hh⟩ := h.row
  rcases h.pc with ⟨h0, -⟩ | ⟨-, g, c, arr, rfl, h1, h2, h3, h4⟩
  · exact absurd h0 hne
  · obtain ⟨p', c', h6, h7, -, h9⟩ := own_sl0 ho hh
    obtain ⟨g2, h10⟩ := h9 hne
    obtain ⟨p, c2, rfl, hc2, hx⟩ := own_sl ho hh hlen
    injection h6 with e1 e2 e3
    subst e1 h10
    refine ⟨g, c, g2, c2, rfl, rfl, ⟨by rw [block_cell h.blk]; rfl, by rw [block_cell h3]; exact h4, h1, hc2, fun j s hj => ?_⟩⟩
    obtain ⟨g', o, kp, kc, hp, c0, c1, hr⟩ := hx j s hj
    cases hp
    rw [Nat.zero_add] at c0 c1
    exact ⟨kp, kc, c0, c1, hr⟩
theorem rk_none {B : Nat} {P : Nat → Prop} {w : World} {b : Nat} {sv pv : Value} (h : Rk B P w b sv pv []) : sv = .slice none 0 0 ∧ pv = .slice none 0 0 ∧ w.cell? ⟨b, 0, none⟩ = some (.slice none 0 0) := by
  rcases h.pc with ⟨-, h1, h2⟩ | ⟨h0, -⟩
  · exact ⟨h1, h2, by rw [block_cell h.blk, h1]; rfl⟩
  · exact absurd rfl h0
theorem Rv.on {P : Nat → Prop} {w w' : World} {b g c g2 c2 : Nat} {l : List Sp} (h : Rv P w b g c g2 c2 l) (hb : Below w.heap.size w w') : Rv P w' b g c g2 c2 l :=
  ⟨cell_onB h.k0 hb, cell_onB h.k1 hb, h.hc, h.hc2, fun j s hj => by
    obtain ⟨kp, kc, c0, c1, hr⟩ := h.sm j s hj
    exact ⟨kp, kc, cell_onB c0 hb, cell_onB c1 hb, row_kp (T := fun _ => False) hr (Kp.of hb) (fun _ _ => id)⟩⟩
set_option maxRecDepth 100000 in
set_option maxHeartbeats 1000000 in
theorem find1_any {P : Nat → Prop} {w : World} {b g c g2 c2 bb bx : Nat} {l : List Sp} {s : Sp} {at' : Int} (h : Rv P w b g c g2 c2 l) (hs : l[0]? = some s) (hb : w.cell? ⟨bb, 0, none⟩ = some (dp b)) (hx : w.cell? ⟨bx, 0, none⟩ = some (.int .i64 at')) :
    Calls Tryz.prog 80 #[.int .i64 0, dp bb, dp bx] w fun e w' => e = .returned (.bool (decide (at' < s.t))) ∧ Below w.heap.size w w' := by
  obtain ⟨kp, kc, c0, c1, -⟩ := h.sm 0 s hs
  obtain ⟨k0, k1, hc, hc2, -⟩ := h
  have hl0 := (List.getElem?_eq_some_iff.1 hs).1
  rw [Nat.zero_mul] at c0 c1
  clear hs
  generalize l.length = n at *
  go_enter Tryz.func80, Tryz.ntmps80
  go_wp2_with fail
  go_quiet (fail)
  go_wp2
  go_ret
  exact ⟨by rfl, below_drewN (Below.refl _ _) _⟩
set_option maxRecDepth 100000 in
set_option maxHeartbeats 1000000 in
theorem search1 {w : World} {x y : Value} {q : Bool} (hf : Calls Tryz.prog 80 #[.int .i64 0, x, y] w fun e w'' => e = .returned (.bool q) ∧ Below w.heap.size w w'') :
    Calls Tryz.prog 79 #[.int .i64 1, .func (.func 80) #[] #[x, y]] w fun e w' => e = .returned (.int .i64 (if q then 0 else 1)) ∧ Below w.heap.size w w' := by
  have HF := hid hf
  clear hf
  have hmi : (1 : Int).fdiv (2 ^ min (Int.toNat 1) IntKind.u64.bits) = 0 := by decide
  generalize hr : (if q then (0 : Int) else 1) = r
  have HR := hid hr
  clear hr
  go_enter Tryz.func79, Tryz.ntmps79
  go_wp2
  go_loopw [5, 6] (fun iv jv wr => (iv = .int .i64 0 ∧ jv = .int .i64 1 ∧ wr = w) ∨ (iv = .int .i64 r ∧ jv = .int .i64 r ∧ Hid (Below w.heap.size w wr))) (fun iv jv _ => (intOf jv - intOf iv).toNat)
  case atStart => exact .inl ⟨rfl, rfl, rfl⟩
  case round =>
    rcases hrel with ⟨rfl, rfl, hw⟩ | ⟨rfl, rfl, HB⟩
    · subst hw
      cases q with
      | true =>
        obtain rfl : r = 0 := HR.out.symm
        go_wp2_with (go_at_call 80; refine HF.out.mono ?_; rintro e w2 ⟨rfl, hb2⟩; have HB2 := hid hb2; clear hb2)
        go_roundw
        case rel => exact .inr ⟨rfl, rfl, HB2.out⟩
        case measure => simp [intOf]
      | false =>
        obtain rfl : r = 1 := HR.out.symm
        go_wp2_with (go_at_call 80; refine HF.out.mono ?_; rintro e w2 ⟨rfl, hb2⟩; have HB2 := hid hb2; clear hb2)
        go_roundw
        case rel => exact .inr ⟨rfl, rfl, HB2.out⟩
        case measure => simp [intOf]
    · go_wp2
      go_ret
      exact ⟨rfl, HB.out⟩
set_option maxRecDepth 100000 in
set_option maxHeartbeats 1000000 in
theorem search0 {w : World} {v : Value} : Calls Tryz.prog 79 #[.int .i64 0, v] w fun e w' => e = .returned (.int .i64 0) ∧ Below w.heap.size w w' := by
  go_enter Tryz.func79, Tryz.ntmps79
  go_wp2
  go_loopw [5, 6] (fun iv jv wr => iv = .int .i64 0 ∧ jv = .int .i64 0 ∧ Hid (Below w.heap.size w wr)) (fun iv jv _ => 0)
  case atStart => exact ⟨rfl, rfl, Below.refl _ _⟩
  case round =>
    obtain ⟨rfl, rfl, HB⟩ := hrel
    go_wp2
    go_ret
    exact ⟨rfl, HB.out⟩
theorem posT_first {l : List Sp} {s : Sp} {at' : Int} (hs : l[0]? = some s) (h : at' < s.t) : posT at' l = 0 := posT_of (Nat.zero_le _) (fun j x hj => absurd hj (Nat.not_lt_zero _)) (fun x hx => by rw [hs] at hx; cases hx; omega)
theorem two_boxes (w : World) (b : Nat) (at' : Int) : ((w.alloc (.cells #[dp b] 74)).alloc (.cells #[.int .i64 at'] 3)).cell? ⟨w.heap.size, 0, none⟩ = some (dp b) ∧ ((w.alloc (.cells #[dp b] 74)).alloc (.cells #[.int .i64 at'] 3)).cell? ⟨w.heap.size + 1, 0, none⟩ = some (.int .i64 at') := by
  have h1 := block_on (alloc_block w (.cells #[dp b] 74)) ((Below.refl _ _).alloc (Nat.le_refl _) (.cells #[.int .i64 at'] 3))
  have h2 := alloc_block (w.alloc (.cells #[dp b] 74)) (.cells #[.int .i64 at'] 3)
  rw [World.size_alloc] at h2
  exact ⟨by rw [block_cell h1]; rfl, by rw [block_cell h2]; rfl⟩
theorem bsf_rk {B : Nat} {P : Nat → Prop} {w : World} {b pp : Nat} {sv pv : Value} {l : List Sp} {at' : Int} {qq : Bool} (h : Rk B P w b sv pv l) (hlen : l.length ≤ 1000) (hp : posT at' l = pp) (hq : hasT l at' = qq) :
    Calls Tryz.prog 81 #[pv, .int .i64 at', .func (.func 82) #[] #[]] w fun e w' => e = .returned (.tuple #[.int .i64 (pp : Nat), .bool qq]) ∧ Below w.heap.size w w' := by
  obtain ⟨hs, ho, hh⟩ := h.row
  rw [← hp, ← hq]
  exact bsf_any ho hh hlen h.up
set_option maxRecDepth 100000 in
set_option maxHeartbeats 2000000 in
theorem find_any {B : Nat} {P : Nat → Prop} {w : World} {b : Nat} {sv pv : Value} {l : List Sp} {at' : Int} (h : Rk B P w b sv pv l) (hlen : l.length ≤ 1000) :
    Calls Tryz.prog 55 #[dp b, .int .i64 at'] w fun e w' => e = .returned (.tuple #[.int .i64 0, .int .i64 (posT at' l : Nat), .bool (hasT l at')]) ∧ Below w.heap.size w w' := by
  have hbl := lt_of_block h.blk
  have hb2 := ((Below.refl _ w).alloc (Nat.le_refl _) (.cells #[dp b] 74)).alloc (by simp) (.cells #[.int .i64 at'] 3)
  obtain ⟨x0, x1⟩ := two_boxes w b at'
  have HX0 := hid x0
  have HX1 := hid x1
  have HB2 := hid hb2
  cases l with
  | nil =>
    obtain ⟨rfl, rfl, k0⟩ := rk_none h
    have k2 := cell_onB k0 hb2
    clear h hb2 k0
    go_enter Tryz.func55, Tryz.ntmps55
    go_wp2_with (first | (go_at_call 79; refine search0.mono ?_; rintro e w3 ⟨rfl, hb3⟩; have HB3 := hid (HB2.out.trans (hb3.mono HB2.out.size)); clear hb3 k2))
    go_ret3
    exact ⟨rfl, HB3.out⟩
  | cons s r =>
    have hs : (s :: r)[0]? = some s := rfl
    generalize hll : s :: r = l at *
    have hne : l ≠ [] := by rw [← hll]; simp
    obtain ⟨g, c, g2, c2, rfl, rfl, hv⟩ := rk_view h hlen hne
    have HV2 := hid (hv.on hb2)
    have HK := hid h
    have HS := hid hs
    have HLen := hid hlen
    have k2 := (hv.on hb2).k0
    have hc1 := hv.hc
    clear h hv hb2 hll hne hs hlen
    by_cases hc : at' < s.t
    · have hp := posT_first HS.out hc
      have hh : hasT l at' = false := hasT_none HK.out.up (fun x hx => by rw [hp, HS.out] at hx; cases hx; omega)
      rw [hp, hh]
      have hf := find1_any HV2.out HS.out HX0.out HX1.out
      rw [decide_eq_true hc] at hf
      have HF := hid hf
      clear hf
      clear hp hh
      go_enter Tryz.func55, Tryz.ntmps55
      go_wp2_with (first | (go_at_call 79; refine (search1 HF.out).mono ?_; rintro e w3 ⟨rfl, hb3⟩; have HB3 := hid (HB2.out.trans (hb3.mono HB2.out.size)); clear hb3 k2))
      go_ret3
      exact ⟨rfl, HB3.out⟩
    · have hf := find1_any HV2.out HS.out HX0.out HX1.out
      rw [decide_eq_false hc] at hf
      have HF := hid hf
      clear hf
      have HW3 : Hid (∀ w3, Below ((w.alloc (.cells #[dp b] 74)).alloc (.cells #[.int .i64 at'] 3)).heap.size ((w.alloc (.cells #[dp b] 74)).alloc (.cells #[.int .i64 at'] 3)) w3 → w3.cell? ⟨b, 0, none⟩ = some (.slice (some ⟨g, 0, none⟩) 1 c) ∧ w3.cell? ⟨g, 0, none⟩ = some (.slice (some ⟨g2, 0, none⟩) l.length c2) ∧ w3.cell? ⟨w.heap.size, 0, none⟩ = some (dp b) ∧ w3.cell? ⟨w.heap.size + 1, 0, none⟩ = some (.int .i64 at')) := fun w3 hb => ⟨(HV2.out.on hb).k0, (HV2.out.on hb).k1, cell_onB HX0.out hb, cell_onB HX1.out hb⟩
      generalize hpp : posT at' l = pp
      generalize hqq : hasT l at' = qq
      have HPP := hid hpp
      have HQQ := hid hqq
      clear hpp hqq
      go_enter Tryz.func55, Tryz.ntmps55
      go_wp2_with (first | (go_at_call 79; refine (search1 HF.out).mono ?_; rintro e w3 ⟨rfl, hb3⟩; have HB3 := hid (HB2.out.trans (hb3.mono HB2.out.size)); obtain ⟨y0, y1, y2, y3⟩ := HW3.out w3 hb3; clear hb3 k2))
      have z0 := cell_regrown y0
      have z1 := cell_regrown y1
      have z2 := cell_regrown y2
      have z3 := cell_regrown y3
      have HKg : ∀ d os, Hid (Rk B P (grow (redrawn w3 d) os) b (.slice (some ⟨g, 0, none⟩) 1 c) (.slice (some ⟨g2, 0, none⟩) l.length c2) l) := fun d os => (HK.out.on HB3.out).on (below_regrown w3 d os)
      refine wp_region_quiet_below (by kernel_rfl) (by kernel_rfl) ?_
      repeat (go_big_quiet_step (first | (go_at_call 81; exact Calls.regrown_of (bsf_rk (HKg _ _).out HLen.out HPP.out HQQ.out))))
      refine wpQuiet_nil ?_
      intro _ hw'
      obtain ⟨⟨dq, osq⟩, hw''⟩ := hw'
      subst hw''
      have HB4 := hid (HB3.out.trans ((below_regrown w3 dq osq).mono HB3.out.size))
      clear y0 y1 y2 y3 z0 z1 z2 z3 HKg
      go_wp2
      go_ret3
      exact ⟨rfl, HB4.out⟩
end Go.Proofs.YtlbjbkhcnafhcaaGreat.RN
namespace Go.Proofs.YtlbjbkhcnafhcaaGreat.RN
open Go.RowKit Go.Sort

theorem run_copyK {P : Program} (w : World) (dT sT ty elem : TypeId) (g o dLen dCap : Nat) (a : Addr) (sLen sCap : Nat) (cur : List Value) (t : TypeId) (cs : List Value) (k : Nat)
    (hu : P.underlying dT = some (.slice elem)) (hs : (P.info? elem).map (·.size) = some k) (hg : w.heap[g]? = some (.cells cur.toArray t (0, 0))) (hn : cs.length = Nat.min sLen dLen * k)
    (hsrc : ∀ j v, cs[j]? = some v → w.cell? (a.add j) = some v) (hfit : o + cs.length ≤ cur.length) (h1 : ∀ v ∈ cs, v.oneCell' = true) :
    (Builtin.copy_ #[dT, sT] ty #[.slice (some ⟨g, o, none⟩) dLen dCap, .slice (some a) sLen sCap]).run P w = .ok (goInt (Nat.min sLen dLen)) (w.setRow g (splice cur o cs).toArray) := by
  have hl := run_loadCells_list (P := P) w a cs hsrc
  have hst := run_storeCells_at P g o t cs 0 cur.toArray w hg (by simpa using hfit) h1
  cases hq : P.info? elem with
  | none => simp [hq] at hs
  | some i =>
    have hi : i.size = k := by simpa [hq] using hs
    simp [Builtin.copy_, run_underlying hu, Builtin.lenOf, Builtin.firstCells, sizeOf, typeInfo, hq, hi, ← hn, hl, hst, splice]
theorem step_copyK {ops : Array Oper} {o : Oper} {a : Act} {w : World} {K : Act → World → Prop} {Q : Exit → Act → World → Prop} {E : Prop} (hgd : o.guard = none) (d s : Operand) (dT sT : TypeId)
    (ho : o.op = .call { callee := .builtin .copy, args := #[d, s], argTypes := #[dT, sT] }) (elem : TypeId) (k : Nat) (hu : Tryz.prog.underlying dT = some (.slice elem)) (hsz : (Tryz.prog.info? elem).map (·.size) = some k)
    (g off dLen dCap : Nat) (ad : Addr) (sLen sCap : Nat) (hd : a.eval d = .slice (some ⟨g, off, none⟩) dLen dCap) (hs : a.eval s = .slice (some ad) sLen sCap)
    (cur : List Value) (t : TypeId) (hg : w.heap[g]? = some (.cells cur.toArray t (0, 0))) (cs : List Value) (hn : cs.length = Nat.min sLen dLen * k)
    (hsrc : ∀ j v, cs[j]? = some v → w.cell? (ad.add j) = some v) (hfit : off + cs.length ≤ cur.length) (h1 : ∀ v ∈ cs, v.oneCell' = true)
    (h : ∀ w', Hid (w'.heap[g]? = some (.cells (splice cur off cs).toArray t (0, 0))) → Hid (Kp (fun x => x = g) w w') → K (a.put o.dst (goInt (Nat.min sLen dLen))) w') :
    if Region.wanted o (yielded ops a.tmps) = true then Oper.wp Tryz.prog o a w K Q else E := by
  have hw : Region.wanted o (yielded ops a.tmps) = true := by simp [Region.wanted, hgd]
  rw [if_pos hw]
  have hrun := run_copyK (P := Tryz.prog) w dT sT o.type elem g off dLen dCap ad sLen sCap cur t cs k hu hsz hg hn hsrc hfit h1
  unfold Oper.wp
  simp [execOp, ho, resolve, invoke, builtin, hd, hs, hrun, Result.andThen]
  exact h _ (show _ = _ by simpa using setRow_heap w g _ _ t _ hg) (show Kp _ _ _ from ⟨rfl, rfl, rfl, by simp [World.setRow], fun i _ hn => setRow_other w g i _ hn⟩)
theorem wpList_copyK {ops : Array Oper} {rest : List Oper} {o : Oper} {a : Act} {w : World} {Q : Exit → Act → World → Prop} (hgd : o.guard = none) (d s : Operand) (dT sT : TypeId)
    (ho : o.op = .call { callee := .builtin .copy, args := #[d, s], argTypes := #[dT, sT] }) (elem : TypeId) (k : Nat) (hu : Tryz.prog.underlying dT = some (.slice elem)) (hsz : (Tryz.prog.info? elem).map (·.size) = some k)
    (g off dLen dCap : Nat) (ad : Addr) (sLen sCap : Nat) (hd : a.eval d = .slice (some ⟨g, off, none⟩) dLen dCap) (hs : a.eval s = .slice (some ad) sLen sCap)
    (cur : List Value) (t : TypeId) (hg : w.heap[g]? = some (.cells cur.toArray t (0, 0))) (cs : List Value) (hn : cs.length = Nat.min sLen dLen * k)
    (hsrc : ∀ j v, cs[j]? = some v → w.cell? (ad.add j) = some v) (hfit : off + cs.length ≤ cur.length) (h1 : ∀ v ∈ cs, v.oneCell' = true)
    (h : ∀ w', Hid (w'.heap[g]? = some (.cells (splice cur off cs).toArray t (0, 0))) → Hid (Kp (fun x => x = g) w w') → wpList Tryz.prog ops Q rest (a.put o.dst (goInt (Nat.min sLen dLen))) w') :
    wpList Tryz.prog ops Q (o :: rest) a w := by
  refine wpList_plain hgd fun K hK => ?_
  have := step_copyK (ops := ops) (K := K) (Q := Q) (E := True) hgd d s dT sT ho elem k hu hsz g off dLen dCap ad sLen sCap hd hs cur t hg cs hn hsrc hfit h1 (fun w' h2 h3 => hK _ _ (h w' h2 h3))
  have hw : Region.wanted o (yielded ops a.tmps) = true := by simp [Region.wanted, hgd]
  rw [if_pos hw] at this
  exact this
theorem shift_row {cur X1 X2 Y : List Value} {i m : Nat} (h1 : X1.length = i) (hY : Y.length = m) (h : cur.take (i + X2.length) = X1 ++ X2) (hl : i + m + X2.length ≤ cur.length) :
    (splice (splice cur (i + m) X2) i Y).take (i + m + X2.length) = X1 ++ (Y ++ X2) ∧ (splice (splice cur (i + m) X2) i Y).length = cur.length := by
  have hc : cur.take i = X1 := by
    have := congrArg (List.take i) h
    rw [List.take_take, Nat.min_eq_left (by omega)] at this
    rw [this, ← h1]; simp
  have hl1 := length_splice cur (i + m) X2 (by omega)
  have e1 : (splice cur (i + m) X2).take i = X1 := by
    unfold splice
    rw [List.take_append_of_le_length (by simp; omega), List.take_take, Nat.min_eq_left (by omega), hc]
  have e2 : (splice cur (i + m) X2).drop (i + m) = X2 ++ cur.drop (i + m + X2.length) := by
    unfold splice
    rw [List.drop_append_of_le_length (by simp; omega)]
    rw [List.drop_of_length_le (by simp; omega), List.nil_append]
  refine ⟨?_, by rw [length_splice _ _ _ (by rw [hl1]; omega), hl1]⟩
  show (List.take i (splice cur (i + m) X2) ++ (Y ++ List.drop (i + Y.length) (splice cur (i + m) X2))).take _ = _
  rw [e1, hY, e2, ← List.append_assoc, ← List.append_assoc, List.take_append_of_le_length (by simp; omega), List.take_of_length_le (by simp; omega), List.append_assoc]
theorem fill_row {cur X1 X2 Y : List Value} {i m : Nat} (h1 : X1.length = i) (hY : Y.length = m) (hc : cur.take i = X1) (hl : i + m + X2.length ≤ cur.length) :
    (splice (splice cur i Y) (i + m) X2).take (i + m + X2.length) = X1 ++ (Y ++ X2) ∧ (splice (splice cur i Y) (i + m) X2).length = cur.length := by
  have hl1 := length_splice cur i Y (by omega)
  have e1 : (splice cur i Y).take (i + m) = X1 ++ Y := by
    unfold splice
    rw [hc, ← List.append_assoc, List.take_append_of_le_length (by simp; omega), List.take_of_length_le (by simp; omega)]
  refine ⟨?_, by rw [length_splice _ _ _ (by rw [hl1]; omega), hl1]⟩
  show (List.take (i + m) (splice cur i Y) ++ (X2 ++ List.drop (i + m + X2.length) (splice cur i Y))).take _ = _
  rw [e1, ← List.append_assoc, List.take_append_of_le_length (by simp; omega), List.take_of_length_le (by simp; omega), List.append_assoc]
end Go.Proofs.YtlbjbkhcnafhcaaGreat.RN
namespace Go.Proofs.YtlbjbkhcnafhcaaGreat.RN
open Go.RowKit Go.Sort

/- A slice of one sample. -/
theorem sh_sl {w : World} {vb : Nat} {s : Sh} {t : TypeId} (hv : w.heap[vb]? = some (.cells #[.int .i64 s.t, s.kv] t)) : SlAt any Sh.cells 2 w (.slice (some ⟨vb, 0, none⟩) 1 1) [s] := by
  refine ⟨_, 1, rfl, ⟨Nat.le_refl _, fun e => by cases e⟩, by simp [maxLen], fun _ => ⟨_, 0, rfl, ⟨trivial, by simp [bsz]⟩, fun j x hj i u hu => ?_⟩⟩
  have hj0 : j = 0 := by have := (List.getElem?_eq_some_iff.1 hj).1; simp at this; omega
  subst hj0
  simp at hj
  subst hj
  have hi : i < 2 := by have := (List.getElem?_eq_some_iff.1 hu).1; simpa [Sh.cells] using this
  rw [block_cell hv]
  rcases i with _ | _ | i
  · simpa [Sh.cells] using hu
  · simpa [Sh.cells] using hu
  · omega
/- What Insert leaves. -/
def InsP (B : Nat) (pv : Value) (hs : List Sh) (w : World) (e : Ending) (w' : World) : Prop := ∃ pv', e = .returned pv' ∧ Own Sh.cells 2 105 B w' pv' hs ∧ Kp (fun k => pv.ownBlock = some k) w w' ∧ At w pv pv'
theorem own_form1 {B n : Nat} {w : World} {v : Value} {xs : List Sh} (h : Own Sh.cells 2 105 B w v xs) (hn : xs.length = n) : ∃ p c, v = .slice p n c ∧ n ≤ c ∧ c ≤ maxLen ∧ (p = none → n = 0 ∧ c = 0) ∧ (∀ a, p = some a → ∃ g, a = ⟨g, 0, none⟩) := by
  subst hn
  rcases h.2 with ⟨hv, h0⟩ | ⟨g, cap, cur, hv, hg, hblk, hc, hm, q⟩
  · exact ⟨none, 0, by rw [hv, h0], by omega, Nat.zero_le _, (fun _ => ⟨h0, rfl⟩), (fun a e => by cases e)⟩
  · exact ⟨_, cap, hv, hc, hm, (fun e => by cases e), (fun a e => ⟨g, by cases e; rfl⟩)⟩
set_option maxRecDepth 100000 in
set_option maxHeartbeats 2000000 in
theorem ins_end {B vb n : Nat} {w : World} {pv : Value} {hs : List Sh} {s : Sh} (ho : Own Sh.cells 2 105 B w pv hs) (hl : n ≤ 1000) (hn : hs.length = n) (hB : B ≤ w.heap.size) (hv : w.heap[vb]? = some (.cells #[.int .i64 s.t, s.kv] 105)) (h1 : s.kv.oneCell' = true) :
    Calls Tryz.prog 56 #[pv, .int .i64 n, .slice (some ⟨vb, 0, none⟩) 1 1] w (InsP B pv (hs ++ [s]) w) := by
  have HO := hid ho
  obtain ⟨p, c, rfl, hc, hm, hp0, hp1⟩ := own_form1 ho hn
  unfold maxLen at hm
  have HV := hid hv
  have H1 := hid h1
  have HN := hid hn
  clear ho hv h1 hn
  cases p with
  | none =>
    obtain ⟨rfl, rfl⟩ := hp0 rfl
    clear hp0 hp1
    go_enter Tryz.func56, Tryz.ntmps56
    go_wp2_with (at_builtin; refine app_P elem32 sh_len (fun x hx => by simp at hx; subst hx; exact sh_cells H1.out) rfl _ _ rfl rfl HO.out rfl (sh_sl HV.out) (by have := HN.out; simp only [List.length_cons, List.length_nil]; omega) (by decide) hB ?_; intro v' w1 hown hg hat)
    go_ret
    exact ⟨_, rfl, hown, Kp.grown hg (fun k e => e), hat⟩
  | some ad =>
    obtain ⟨g, rfl⟩ := hp1 ad rfl
    clear hp0 hp1
    by_cases hcn : c = n
    · subst hcn
      go_enter Tryz.func56, Tryz.ntmps56
      go_wp2_with (at_builtin; refine app_P elem32 sh_len (fun x hx => by simp at hx; subst hx; exact sh_cells H1.out) rfl _ _ rfl rfl HO.out rfl (sh_sl HV.out) (by have := HN.out; simp only [List.length_cons, List.length_nil]; omega) (by decide) hB ?_; intro v' w1 hown hg hat)
      go_ret
      exact ⟨_, rfl, hown, Kp.grown hg (fun k e => e), hat⟩
    · go_enter Tryz.func56, Tryz.ntmps56
      go_wp2_with (at_builtin; refine app_P elem32 sh_len (fun x hx => by simp at hx; subst hx; exact sh_cells H1.out) rfl _ _ rfl rfl HO.out rfl (sh_sl HV.out) (by have := HN.out; simp only [List.length_cons, List.length_nil]; omega) (by decide) hB ?_; intro v' w1 hown hg hat)
      go_ret
      exact ⟨_, rfl, hown, Kp.grown hg (fun k e => e), hat⟩
end Go.Proofs.YtlbjbkhcnafhcaaGreat.RN
