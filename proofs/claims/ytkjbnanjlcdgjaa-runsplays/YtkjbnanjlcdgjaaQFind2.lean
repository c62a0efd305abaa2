/-
  What find of package runs returns: where a moment's sample stands, or would.
-/
import Derived.Test.YtkjbnanjlcdgjaaQFind
import Derived.Lib.QuietBelow
namespace Go.Proofs.Ytkjbnanjlcdgjaa
open Go.RowKit Go.Sort Go.Shelf

/- A run that has samples, opened. -/
structure Rv (P : Nat → Prop) (w : World) (b g c g2 c2 : Nat) (l : List Sp) : Prop where
  k0 : w.cell? ⟨b, 0, none⟩ = some (.slice (some ⟨g, 0, none⟩) 1 c)
  k1 : w.cell? ⟨g, 0, none⟩ = some (.slice (some ⟨g2, 0, none⟩) l.length c2)
  hc : 1 ≤ c
  hc2 : l.length ≤ c2
  sm : ∀ (j : Nat) s, l[j]? = some s → ∃ kp kc, w.cell? ⟨g2, j * 2, none⟩ = some (.int .i64 s.t) ∧ w.cell? ⟨g2, j * 2 + 1, none⟩ = some (.slice kp (List.length s.vs) kc) ∧ RowIn (ty36 P w) w (.slice kp (List.length s.vs) kc) s.vs
theorem rk_view {B : Nat} {P : Nat → Prop} {w : World} {b : Nat} {sv pv : Value} {l : List Sp} (h : Rk B P w b sv pv l) (hlen : l.length ≤ 1000) (hne : l ≠ []) :
    ∃ g c g2 c2, sv = .slice (some ⟨g, 0, none⟩) 1 c ∧ pv = .slice (some ⟨g2, 0, none⟩) l.length c2 ∧ Rv P w b g c g2 c2 l := by
  obtain ⟨hs, ho, hh⟩ := h.row
  rcases h.pc with ⟨h0, -⟩ | ⟨-, g, c, arr, rfl, h1, h2, h3, h4⟩
  · exact absurd h0 hne
  · obtain ⟨p', c', h6, h7, -, h9⟩ := own_sl0 ho hh
    obtain ⟨g2, h10⟩ := h9 hne
    obtain ⟨p, c2, rfl, hc2, hx⟩ := own_sl ho hh hlen
    injection h6 with e1 e2 e3
    subst e1 h10
    refine ⟨g, c, g2, c2, rfl, rfl, ⟨by rw [block_cell h.blk]; rfl, by rw [block_cell h3]; exact h4, h1, hc2, fun j s hj => ?_⟩⟩
    obtain ⟨g', o, kp, kc, hp, c0, c1, hr⟩ := hx j s hj
    cases hp
    rw [Nat.zero_add] at c0 c1
    exact ⟨kp, kc, c0, c1, hr⟩
theorem rk_none {B : Nat} {P : Nat → Prop} {w : World} {b : Nat} {sv pv : Value} (h : Rk B P w b sv pv []) : sv = .slice none 0 0 ∧ pv = .slice none 0 0 ∧ w.cell? ⟨b, 0, none⟩ = some (.slice none 0 0) := by
  rcases h.pc with ⟨-, h1, h2⟩ | ⟨h0, -⟩
  · exact ⟨h1, h2, by rw [block_cell h.blk, h1]; rfl⟩
  · exact absurd rfl h0
theorem Rv.on {P : Nat → Prop} {w w' : World} {b g c g2 c2 : Nat} {l : List Sp} (h : Rv P w b g c g2 c2 l) (hb : Below w.heap.size w w') : Rv P w' b g c g2 c2 l :=
  ⟨cell_onB h.k0 hb, cell_onB h.k1 hb, h.hc, h.hc2, fun j s hj => by
    obtain ⟨kp, kc, c0, c1, hr⟩ := h.sm j s hj
    exact ⟨kp, kc, cell_onB c0 hb, cell_onB c1 hb, row_kp (T := fun _ => False) hr (Kp.of hb) (fun _ _ => id)⟩⟩
set_option maxRecDepth 100000 in
set_option maxHeartbeats 1000000 in
theorem find1_any {P : Nat → Prop} {w : World} {b g c g2 c2 bb bx : Nat} {l : List Sp} {s : Sp} {at' : Int} (h : Rv P w b g c g2 c2 l) (hs : l[0]? = some s) (hb : w.cell? ⟨bb, 0, none⟩ = some (dp b)) (hx : w.cell? ⟨bx, 0, none⟩ = some (.int .i64 at')) :
    Calls Try.prog 26 #[.int .i64 0, dp bb, dp bx] w fun e w' => e = .returned (.bool (decide (at' < s.t))) ∧ Below w.heap.size w w' := by
  obtain ⟨kp, kc, c0, c1, -⟩ := h.sm 0 s hs
  obtain ⟨k0, k1, hc, hc2, -⟩ := h
  have hl0 := (List.getElem?_eq_some_iff.1 hs).1
  rw [Nat.zero_mul] at c0 c1
  clear hs
  generalize l.length = n at *
  go_enter Try.func26, Try.ntmps26
  go_wp2_with fail
  go_quiet (fail)
  go_wp2
  go_ret
  exact ⟨by rfl, below_drewN (Below.refl _ _) _⟩
set_option maxRecDepth 100000 in
set_option maxHeartbeats 1000000 in
theorem search1 {w : World} {x y : Value} {q : Bool} (hf : Calls Try.prog 26 #[.int .i64 0, x, y] w fun e w'' => e = .returned (.bool q) ∧ Below w.heap.size w w'') :
    Calls Try.prog 25 #[.int .i64 1, .func (.func 26) #[] #[x, y]] w fun e w' => e = .returned (.int .i64 (if q then 0 else 1)) ∧ Below w.heap.size w w' := by
  have HF := hid hf
  clear hf
  have hmi : (1 : Int).fdiv (2 ^ min (Int.toNat 1) IntKind.u64.bits) = 0 := by decide
  generalize hr : (if q then (0 : Int) else 1) = r
  have HR := hid hr
  clear hr
  go_enter Try.func25, Try.ntmps25
  go_wp2
  go_loopw [5, 6] (fun iv jv wr => (iv = .int .i64 0 ∧ jv = .int .i64 1 ∧ wr = w) ∨ (iv = .int .i64 r ∧ jv = .int .i64 r ∧ Hid (Below w.heap.size w wr))) (fun iv jv _ => (intOf jv - intOf iv).toNat)
  case atStart => exact .inl ⟨rfl, rfl, rfl⟩
  case round =>
    rcases hrel with ⟨rfl, rfl, hw⟩ | ⟨rfl, rfl, HB⟩
    · subst hw
      cases q with
      | true =>
        obtain rfl : r = 0 := HR.out.symm
        go_wp2_with (go_at_call 26; refine HF.out.mono ?_; rintro e w2 ⟨rfl, hb2⟩; have HB2 := hid hb2; clear hb2)
        go_roundw
        case rel => exact .inr ⟨rfl, rfl, HB2.out⟩
        case measure => simp [intOf]
      | false =>
        obtain rfl : r = 1 := HR.out.symm
        go_wp2_with (go_at_call 26; refine HF.out.mono ?_; rintro e w2 ⟨rfl, hb2⟩; have HB2 := hid hb2; clear hb2)
        go_roundw
        case rel => exact .inr ⟨rfl, rfl, HB2.out⟩
        case measure => simp [intOf]
    · go_wp2
      go_ret
      exact ⟨rfl, HB.out⟩
set_option maxRecDepth 100000 in
set_option maxHeartbeats 1000000 in
theorem search0 {w : World} {v : Value} : Calls Try.prog 25 #[.int .i64 0, v] w fun e w' => e = .returned (.int .i64 0) ∧ Below w.heap.size w w' := by
  go_enter Try.func25, Try.ntmps25
  go_wp2
  go_loopw [5, 6] (fun iv jv wr => iv = .int .i64 0 ∧ jv = .int .i64 0 ∧ Hid (Below w.heap.size w wr)) (fun iv jv _ => 0)
  case atStart => exact ⟨rfl, rfl, Below.refl _ _⟩
  case round =>
    obtain ⟨rfl, rfl, HB⟩ := hrel
    go_wp2
    go_ret
    exact ⟨rfl, HB.out⟩
theorem posT_first {l : List Sp} {s : Sp} {at' : Int} (hs : l[0]? = some s) (h : at' < s.t) : posT at' l = 0 := posT_of (Nat.zero_le _) (fun j x hj => absurd hj (Nat.not_lt_zero _)) (fun x hx => by rw [hs] at hx; cases hx; omega)
theorem two_boxes (w : World) (b : Nat) (at' : Int) : ((w.alloc (.cells #[dp b] 25)).alloc (.cells #[.int .i64 at'] 3)).cell? ⟨w.heap.size, 0, none⟩ = some (dp b) ∧ ((w.alloc (.cells #[dp b] 25)).alloc (.cells #[.int .i64 at'] 3)).cell? ⟨w.heap.size + 1, 0, none⟩ = some (.int .i64 at') := by
  have h1 := block_on (alloc_block w (.cells #[dp b] 25)) ((Below.refl _ _).alloc (Nat.le_refl _) (.cells #[.int .i64 at'] 3))
  have h2 := alloc_block (w.alloc (.cells #[dp b] 25)) (.cells #[.int .i64 at'] 3)
  rw [World.size_alloc] at h2
  exact ⟨by rw [block_cell h1]; rfl, by rw [block_cell h2]; rfl⟩
theorem bsf_rk {B : Nat} {P : Nat → Prop} {w : World} {b pp : Nat} {sv pv : Value} {l : List Sp} {at' : Int} {qq : Bool} (h : Rk B P w b sv pv l) (hlen : l.length ≤ 1000) (hp : posT at' l = pp) (hq : hasT l at' = qq) :
    Calls Try.prog 27 #[pv, .int .i64 at', .func (.func 28) #[] #[]] w fun e w' => e = .returned (.tuple #[.int .i64 (pp : Nat), .bool qq]) ∧ Below w.heap.size w w' := by
  obtain ⟨hs, ho, hh⟩ := h.row
  rw [← hp, ← hq]
  exact bsf_any ho hh hlen h.up
set_option maxRecDepth 100000 in
set_option maxHeartbeats 2000000 in
theorem find_any {B : Nat} {P : Nat → Prop} {w : World} {b : Nat} {sv pv : Value} {l : List Sp} {at' : Int} (h : Rk B P w b sv pv l) (hlen : l.length ≤ 1000) :
    Calls Try.prog 21 #[dp b, .int .i64 at'] w fun e w' => e = .returned (.tuple #[.int .i64 0, .int .i64 (posT at' l : Nat), .bool (hasT l at')]) ∧ Below w.heap.size w w' := by
  have hbl := lt_of_block h.blk
  have hb2 := ((Below.refl _ w).alloc (Nat.le_refl _) (.cells #[dp b] 25)).alloc (by simp) (.cells #[.int .i64 at'] 3)
  obtain ⟨x0, x1⟩ := two_boxes w b at'
  have HX0 := hid x0
  have HX1 := hid x1
  have HB2 := hid hb2
  cases l with
  | nil =>
    obtain ⟨rfl, rfl, k0⟩ := rk_none h
    have k2 := cell_onB k0 hb2
    clear h hb2 k0
    go_enter Try.func21, Try.ntmps21
    go_wp2_with (first | (go_at_call 25; refine search0.mono ?_; rintro e w3 ⟨rfl, hb3⟩; have HB3 := hid (HB2.out.trans (hb3.mono HB2.out.size)); clear hb3 k2))
    go_ret3
    exact ⟨rfl, HB3.out⟩
  | cons s r =>
    have hs : (s :: r)[0]? = some s := rfl
    generalize hll : s :: r = l at *
    have hne : l ≠ [] := by rw [← hll]; simp
    obtain ⟨g, c, g2, c2, rfl, rfl, hv⟩ := rk_view h hlen hne
    have HV2 := hid (hv.on hb2)
    have HK := hid h
    have HS := hid hs
    have HLen := hid hlen
    have k2 := (hv.on hb2).k0
    have hc1 := hv.hc
    clear h hv hb2 hll hne hs hlen
    by_cases hc : at' < s.t
    · have hp := posT_first HS.out hc
      have hh : hasT l at' = false := hasT_none HK.out.up (fun x hx => by rw [hp, HS.out] at hx; cases hx; omega)
      rw [hp, hh]
      have hf := find1_any HV2.out HS.out HX0.out HX1.out
      rw [decide_eq_true hc] at hf
      have HF := hid hf
      clear hf
      clear hp hh
      go_enter Try.func21, Try.ntmps21
      go_wp2_with (first | (go_at_call 25; refine (search1 HF.out).mono ?_; rintro e w3 ⟨rfl, hb3⟩; have HB3 := hid (HB2.out.trans (hb3.mono HB2.out.size)); clear hb3 k2))
      go_ret3
      exact ⟨rfl, HB3.out⟩
    · have hf := find1_any HV2.out HS.out HX0.out HX1.out
      rw [decide_eq_false hc] at hf
      have HF := hid hf
      clear hf
      have HW3 : Hid (∀ w3, Below ((w.alloc (.cells #[dp b] 25)).alloc (.cells #[.int .i64 at'] 3)).heap.size ((w.alloc (.cells #[dp b] 25)).alloc (.cells #[.int .i64 at'] 3)) w3 → w3.cell? ⟨b, 0, none⟩ = some (.slice (some ⟨g, 0, none⟩) 1 c) ∧ w3.cell? ⟨g, 0, none⟩ = some (.slice (some ⟨g2, 0, none⟩) l.length c2) ∧ w3.cell? ⟨w.heap.size, 0, none⟩ = some (dp b) ∧ w3.cell? ⟨w.heap.size + 1, 0, none⟩ = some (.int .i64 at')) := fun w3 hb => ⟨(HV2.out.on hb).k0, (HV2.out.on hb).k1, cell_onB HX0.out hb, cell_onB HX1.out hb⟩
      generalize hpp : posT at' l = pp
      generalize hqq : hasT l at' = qq
      have HPP := hid hpp
      have HQQ := hid hqq
      clear hpp hqq
      go_enter Try.func21, Try.ntmps21
      go_wp2_with (first | (go_at_call 25; refine (search1 HF.out).mono ?_; rintro e w3 ⟨rfl, hb3⟩; have HB3 := hid (HB2.out.trans (hb3.mono HB2.out.size)); obtain ⟨y0, y1, y2, y3⟩ := HW3.out w3 hb3; clear hb3 k2))
      have z0 := cell_regrown y0
      have z1 := cell_regrown y1
      have z2 := cell_regrown y2
      have z3 := cell_regrown y3
      have HKg : ∀ d os, Hid (Rk B P (grow (redrawn w3 d) os) b (.slice (some ⟨g, 0, none⟩) 1 c) (.slice (some ⟨g2, 0, none⟩) l.length c2) l) := fun d os => (HK.out.on HB3.out).on (below_regrown w3 d os)
      refine wp_region_quiet_below (by kernel_rfl) (by kernel_rfl) ?_
      repeat (go_big_quiet_step (first | (go_at_call 27; exact Calls.regrown_of (bsf_rk (HKg _ _).out HLen.out HPP.out HQQ.out))))
      refine wpQuiet_nil ?_
      intro _ hw'
      obtain ⟨⟨dq, osq⟩, hw''⟩ := hw'
      subst hw''
      have HB4 := hid (HB3.out.trans ((below_regrown w3 dq osq).mono HB3.out.size))
      clear y0 y1 y2 y3 z0 z1 z2 z3 HKg
      go_wp2
      go_ret3
      exact ⟨rfl, HB4.out⟩
end Go.Proofs.Ytkjbnanjlcdgjaa
