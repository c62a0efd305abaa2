/-
  What oneOf, how, agg, value and the two lists return.
-/
import Derived.Test.YtomnjckbgmbgmaaGreatDoorQPRd
namespace Go.Proofs.YtomnjckbgmbgmaaGreatDoor
open Go.RowKit Go.Joins

section
variable {B : Nat} {ts : List Tp} {w : World} {rb : Nat} {tv sv : Value} {o i : Nat} {qs : List Nd}
theorem lits_sl {W : World} {rb : Nat} (hr : rb < W.heap.size) (ws : List (List UInt8)) {cs : Array Value} {n : Nat} (hc : cs = (ws.flatMap str1).toArray) (hn : n = ws.length) (hl : ws.length ≤ 1000) : SlAt (fun b => b ≠ rb) str1 1 (W.alloc (.cells cs 9)) (.slice (some ⟨W.heap.size, 0, none⟩) n n) ws := by
  subst hc
  subst hn
  have h := Own.blk (enc := str1) (k := 1) (e := 9) (B := W.heap.size) (w := W.alloc (.cells (ws.flatMap str1).toArray 9)) (xs := ws) (fun _ => rfl) (Nat.le_refl _) (alloc_block W _) (by unfold maxLen; omega)
  exact (h.sl (fun _ => rfl)).imp (fun b hb => by omega)
theorem idx_drop {ts : List Tp} {i : Nat} {ws : List (List UInt8)} {k : Nat} {x : List UInt8} (hx : ws[k]? = some x) (hw : isW ts i x = false) : idxOf ts i (ws.drop k) k = idxOf ts i (ws.drop (k + 1)) (k + 1) := by
  obtain ⟨h1, h2⟩ := List.getElem?_eq_some_iff.1 hx
  rw [List.drop_eq_getElem_cons h1, h2, idxOf, hw]; rfl
theorem idx_at {ts : List Tp} {i : Nat} {ws : List (List UInt8)} {k : Nat} {x : List UInt8} (hx : ws[k]? = some x) (hw : isW ts i x = true) : idxOf ts i (ws.drop k) k = some k := by
  obtain ⟨h1, h2⟩ := List.getElem?_eq_some_iff.1 hx
  rw [List.drop_eq_getElem_cons h1, h2, idxOf, hw]; rfl
set_option maxRecDepth 100000 in
set_option maxHeartbeats 1000000 in
theorem oneOf_any {uv : Value} {ws : List (List UInt8)} (h : Rq B ts w rb tv sv o i qs) (hu : SlAt (fun b => b ≠ rb) str1 1 w uv ws) (hl : ws.length ≤ 1000) : Calls Tryz.prog 158 #[dp rb, uv] w (P1 B ts rb tv sv o qs w vNat (oneOfS ts ws i)) := by
  have HQ := hid h
  have HU := hid hu
  obtain ⟨p, cap, rfl, hc1, hc2⟩ := hu.form
  have HN := hid (rfl : ws.length = ws.length)
  generalize hn : ws.length = n at *
  replace HN := hid hn
  clear h hu hn
  unfold maxLen at hc2
  go_enter Tryz.func158, Tryz.ntmps158
  go_wp2_with fail
  go_loopw [9] (fun x wr => ∃ k : Nat, k ≤ n ∧ x = .int .i64 k ∧ Hid (idxOf ts i ws 0 = idxOf ts i (ws.drop k) k) ∧ Hid (Rq B ts wr rb tv sv o i qs) ∧ Hid (Kp (fun k => k = rb) w wr)) (fun x _ => n - (intOf x).toNat)
  case atStart => exact ⟨0, by omega, rfl, rfl, HQ.out, Kp.refl _ _⟩
  case round =>
    obtain ⟨k, hk, rfl, HI, HQr, HKr⟩ := hrel
    by_cases hlt : k < n
    · obtain ⟨x, hx⟩ : ∃ x, ws[k]? = some x := ⟨ws[k]'(by rw [HN.out]; omega), List.getElem?_eq_getElem _⟩
      obtain ⟨g, og, rfl, hg, hc⟩ := (HU.out.kp HKr.out (fun b hb => hb)).at hx
      have e1 : wr.cell? ⟨g, og + k, none⟩ = some (.string (St x)) := by have := hc 0 _ rfl; simpa using this
      have kI : (k : Int) < n := by omega
      have HX := hid hx
      clear hc hx
      have HS := hid (skip_any HQr.out x)
      cases hw : isW ts i x with
      | true =>
        rw [hw] at HS
        have HR : Hid (oneOfS ts ws i = .ok k (i + 1)) := by show _ = _; unfold oneOfS; rw [HI.out, idx_at HX.out hw]
        clear hw
        go_wp2_with (go_at_call 52; refine HS.out.mono ?_; rintro e w2 ⟨rfl, hq, hk2⟩; have HQ2 := hid hq; have HK2 := hid (HKr.out.trans hk2); clear hq hk2)
        go_ret
        exact ⟨HK2.out, .inr ⟨k, i + 1, _, HR.out, rfl, rfl, HQ2.out⟩⟩
      | false =>
        rw [hw] at HS
        have HI2 : Hid (idxOf ts i ws 0 = idxOf ts i (ws.drop (k + 1)) (k + 1)) := by show _ = _; rw [HI.out, idx_drop HX.out hw]
        clear hw
        go_wp2_with (go_at_call 52; refine HS.out.mono ?_; rintro e w2 ⟨rfl, hq, hk2⟩; have HQ2 := hid hq; have HK2 := hid (HKr.out.trans hk2); clear hq hk2)
        go_roundw
        case rel => exact ⟨k + 1, by omega, by go_num, HI2.out, HQ2.out, HK2.out⟩
        case measure => simp [intOf]; omega
    · have HR : Hid (oneOfS ts ws i = .bad i 120) := by show _ = _; unfold oneOfS; rw [HI.out, List.drop_of_length_le (by have := HN.out; omega)]; rfl
      have kI : ¬ (k : Int) < n := by omega
      go_wp2_with (go_at_call 87; refine (fail_any HQr.out 120).mono ?_; rintro e w2 ⟨rfl, he⟩; replace he := he.symm; subst he)
      exact ⟨rfl, P1.bad HKr.out HR.out⟩
abbrev howC : Array Value := #[.string ⟨#[61]⟩, .string ⟨#[33, 61]⟩, .string ⟨#[60]⟩, .string ⟨#[60, 61]⟩, .string ⟨#[62]⟩, .string ⟨#[62, 61]⟩]
abbrev boolC : Array Value := #[.string ⟨#[102, 97, 108, 115, 101]⟩, .string ⟨#[116, 114, 117, 101]⟩]
abbrev aggC : Array Value := #[.string ⟨#[99, 111, 117, 110, 116]⟩, .string ⟨#[115, 117, 109]⟩, .string ⟨#[109, 105, 110]⟩, .string ⟨#[109, 97, 120]⟩, .string ⟨#[109, 101, 97, 110]⟩, .string ⟨#[109, 101, 114, 103, 101]⟩]
theorem oneOf_lits {W : World} (h : Rq B ts W rb tv sv o i qs) (ws : List (List UInt8)) {cs : Array Value} {n : Nat} (hc : cs = (ws.flatMap str1).toArray) (hn : n = ws.length) (hl : ws.length ≤ 1000) : Calls Tryz.prog 158 #[dp rb, .slice (some ⟨W.heap.size, 0, none⟩) n n] (W.alloc (.cells cs 9)) (P1 B ts rb tv sv o qs (W.alloc (.cells cs 9)) vNat (oneOfS ts ws i)) :=
  oneOf_any (h.on ((Below.refl _ _).alloc (Nat.le_refl _) _)) (lits_sl h.lt ws hc hn hl) hl
abbrev howS (ts : List Tp) (i : Nat) : Rs Int := (oneOfS ts howW i).and fun k j => .ok (1 + (k : Int)) j
set_option maxRecDepth 100000 in
set_option maxHeartbeats 1000000 in
theorem how_any (h : Rq B ts w rb tv sv o i qs) : Calls Tryz.prog 143 #[dp rb] w (P1 B ts rb tv sv o qs w vInt (howS ts i)) := by
  have HO := hid (oneOf_lits h howW (cs := howC) (n := 6) rfl rfl (by decide))
  clear h
  go_enter Tryz.func143, Tryz.ntmps143
  go_wp2_with (go_at_call 158; refine HO.out.mono ?_; rintro e w1 ⟨hk, ⟨j, c, hr, rfl⟩ | ⟨t, j, v, hr, rfl, rfl, hq⟩⟩; (focus (go_wp2_with fail; exact ⟨rfl, P1.bad ((Kp.alloc _ _ _).trans hk) (by simp only [howS, hr, Rs.and])⟩)); have HK := hid ((Kp.alloc _ _ _).trans hk); have HQ := hid hq; have HR := hid hr; have ht : (t : Int) ≤ 6 := (by have := oneOf_lt hr; simp [howW] at this; omega); clear hk hq hr)
  go_ret
  exact ⟨HK.out, .inr ⟨1 + (t : Int), j, _, by simp only [howS, HR.out, Rs.and], rfl, rfl, HQ.out⟩⟩
theorem val_back {w w2 w3 : World} {j : Nat} (HR0 : Rq B ts w rb tv sv o i qs) (hq : Rq B ts w2 rb tv sv o j qs) (hk : Kp (fun k => k = rb) w w2) (k3 : Kp (fun k => k = w.heap.size) w2 w3) : Rq B ts w3 rb tv sv o j qs ∧ Kp (fun k => k = rb) w w3 :=
  Rq.back HR0 hq hk (k3.imp (fun k _ e => by omega))
set_option maxRecDepth 100000 in
set_option maxHeartbeats 1000000 in
theorem value_any (h : Rq B ts w rb tv sv o i qs) : Calls Tryz.prog 144 #[dp rb] w (P1 B ts rb tv sv o qs w vVal (valueS ts i)) := by
  have HB0 : Hid (Below w.heap.size w (w.alloc (.cells zVl 47))) := (Below.refl _ _).alloc (Nat.le_refl _) _
  have HZ := hid (alloc_block w (.cells zVl 47))
  have hf := fld0
  have HQ0 := hid (h.on HB0.out)
  have HH := hid (here_any HQ0.out)
  have HR0 := hid h
  have h2 := isK_here ts i 2 (by decide)
  have h3 := isK_here ts i 3 (by decide)
  generalize hW : w.alloc (.cells zVl 47) = w1 at *
  have HW := hid hW
  clear h hW
  generalize hereS ts i = t at *
  have b2 : (t.kind == 2) = decide (t.kind = 2) := by rw [Bool.eq_iff_iff]; simp
  have b3 : (t.kind == 3) = decide (t.kind = 3) := by rw [Bool.eq_iff_iff]; simp
  rw [← h2] at b2
  rw [← h3] at b3
  clear h2 h3
  cases c2 : isK ts i 2 with
  | true =>
    have C2 := hid c2
    rw [c2] at b2
    clear c2 b3
    go_enter Tryz.func144, Tryz.ntmps144
    go_upto_region 1 with fail
    rw [HW.out]
    go_wp2_with (first
      | (go_at_call 111; refine HH.out.mono ?_; rintro e w2 ⟨rfl, hb⟩; have HQ2 := hid (HQ0.out.on hb); have HB2 := hid (HB0.out.trans (hb.mono HB0.out.size)); have HZ2 := hid (block_on HZ.out hb); clear hb)
      | (go_at_call 90; refine (number_any HQ2.out).mono ?_; rintro e w3 ⟨hk, ⟨j, c, hr, rfl⟩ | ⟨n, j, v, hr, rfl, rfl, hq⟩⟩; (focus (go_wp2_with fail; exact ⟨rfl, P1.bad ((Kp.of HB2.out).trans hk) (by simp [valueS, C2.out, hr, Rs.and])⟩)); have HK := hid hk; have HQ := hid hq; have HR := hid hr; clear hk hq hr)
      | (refine store_val (c := (1, n, [])) rfl _ _ rfl rfl rfl (HK.out.blk HZ2.out (fun e => by have := HR0.out.lt; omega)) rfl ?_; intro w4 h4 k4; have H4 := hid h4; have K4 := hid k4; clear h4 k4))
    obtain ⟨a, b⟩ := val_back HR0.out HQ.out ((Kp.of HB2.out).trans HK.out) K4.out
    exact ret_val rfl rfl H4.out rfl rfl ⟨b, .inr ⟨(1, n, []), j, _, by simp [valueS, C2.out, HR.out, Rs.and], rfl, rfl, a⟩⟩
  | false =>
    have C2 := hid c2
    rw [c2] at b2
    clear c2
    cases c3 : isK ts i 3 with
    | true =>
      have C3 := hid c3
      rw [c3] at b3
      clear c3
      go_enter Tryz.func144, Tryz.ntmps144
      go_upto_region 1 with fail
      rw [HW.out]
      go_wp2_with (first
        | (go_at_call 111; refine HH.out.mono ?_; rintro e w2 ⟨rfl, hb⟩; have HQ2 := hid (HQ0.out.on hb); have HB2 := hid (HB0.out.trans (hb.mono HB0.out.size)); have HZ2 := hid (block_on HZ.out hb); clear hb)
        | (go_at_call 142; refine (txt_any HQ2.out).mono ?_; rintro e w3 ⟨hk, ⟨j, c, hr, rfl⟩ | ⟨n, j, v, hr, rfl, rfl, hq⟩⟩; (focus (go_wp2_with fail; exact ⟨rfl, P1.bad ((Kp.of HB2.out).trans hk) (by simp [valueS, C2.out, C3.out, hr])⟩)); have HK := hid hk; have HQ := hid hq; have HR := hid hr; clear hk hq hr)
        | (refine store_val (c := n) rfl _ _ rfl rfl rfl (HK.out.blk HZ2.out (fun e => by have := HR0.out.lt; omega)) rfl ?_; intro w4 h4 k4; have H4 := hid h4; have K4 := hid k4; clear h4 k4))
      obtain ⟨a, b⟩ := val_back HR0.out HQ.out ((Kp.of HB2.out).trans HK.out) K4.out
      exact ret_val rfl rfl H4.out rfl rfl ⟨b, .inr ⟨n, j, _, by simp [valueS, C2.out, C3.out, HR.out], rfl, rfl, a⟩⟩
    | false =>
      have C3 := hid c3
      rw [c3] at b3
      clear c3
      go_enter Tryz.func144, Tryz.ntmps144
      go_upto_region 1 with fail
      rw [HW.out]
      go_wp2_with (first
        | (go_at_call 111; refine HH.out.mono ?_; rintro e w2 ⟨rfl, hb⟩; have HQ2 := hid (HQ0.out.on hb); have HB2 := hid (HB0.out.trans (hb.mono HB0.out.size)); have HZ2 := hid (block_on HZ.out hb); clear hb)
        | (go_at_call 158; refine (oneOf_lits HQ2.out boolW (cs := boolC) (n := 2) rfl rfl (by decide)).mono ?_; rintro e w3 ⟨hk, ⟨j, c, hr, rfl⟩ | ⟨n, j, v, hr, rfl, rfl, hq⟩⟩; (focus (go_wp2_with fail; exact ⟨rfl, P1.bad ((Kp.of HB2.out).trans ((Kp.alloc _ _ _).trans hk)) (by simp [valueS, C2.out, C3.out, hr, Rs.and])⟩)); have HK := hid ((Kp.alloc _ _ _).trans hk); have HQ := hid hq; have HR := hid hr; clear hk hq hr)
        | (refine store_val (c := (3, (n : Int), [])) rfl _ _ rfl rfl rfl (HK.out.blk HZ2.out (fun e => by have := HR0.out.lt; omega)) rfl ?_; intro w4 h4 k4; have H4 := hid h4; have K4 := hid k4; clear h4 k4))
      obtain ⟨a, b⟩ := val_back HR0.out HQ.out ((Kp.of HB2.out).trans HK.out) K4.out
      exact ret_val rfl rfl H4.out rfl rfl ⟨b, .inr ⟨(3, (n : Int), []), j, _, by simp [valueS, C2.out, C3.out, HR.out, Rs.and], rfl, rfl, a⟩⟩
end
end Go.Proofs.YtomnjckbgmbgmaaGreatDoor
