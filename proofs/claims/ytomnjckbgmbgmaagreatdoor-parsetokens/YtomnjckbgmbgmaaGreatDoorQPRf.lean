/-
  What agg, the two lists, lay and end do.
-/
import Derived.Test.YtomnjckbgmbgmaaGreatDoorQPRe
namespace Go.Proofs.YtomnjckbgmbgmaaGreatDoor
open Go.RowKit Go.Joins

section
variable {B : Nat} {ts : List Tp} {w : World} {rb : Nat} {tv sv : Value} {o i : Nat} {qs : List Nd}
abbrev zAg : Array Value := #[.int .i64 0, .string ⟨#[]⟩]
abbrev vAg (_ : World) (x : Int × List UInt8) (v : Value) : Prop := v = .agg #[.int .i64 x.1, .string (St x.2)]
theorem Kp.set2 {n g : Nat} (hn : n ≤ g) (w : World) (d0 d1 : Value) : Kp (fun k => n ≤ k) w ((w.setCell ⟨g, 0, none⟩ d0).setCell ⟨g, 1, none⟩ d1) :=
  (Kp.set (T := fun k => n ≤ k) hn _).trans (Kp.set (T := fun k => n ≤ k) hn _)
set_option maxRecDepth 100000 in
set_option maxHeartbeats 2000000 in
theorem agg_any (h : Rq B ts w rb tv sv o i qs) : Calls Tryz.prog 141 #[dp rb] w (P1 B ts rb tv sv o qs w vAg (aggS ts i)) := by
  have HB0 : Hid (Below w.heap.size w (w.alloc (.cells zAg 80))) := (Below.refl _ _).alloc (Nat.le_refl _) _
  have HZ := hid (alloc_block w (.cells zAg 80))
  have HQ0 := hid (h.on HB0.out)
  have HR0 := hid h
  have hrl := h.lt
  generalize hW : w.alloc (.cells zAg 80) = w1 at *
  have HW := hid hW
  clear h hW
  go_enter Tryz.func141, Tryz.ntmps141
  go_upto_region 1 with fail
  rw [HW.out]
  go_wp2_with (first
    | (go_at_call 158; refine (oneOf_lits HQ0.out aggW (cs := aggC) (n := 6) rfl rfl (by decide)).mono ?_; rintro e w2 ⟨hk, ⟨j, c, hr, rfl⟩ | ⟨n, j, v, hr, rfl, rfl, hq⟩⟩; (focus (go_wp2_with fail; exact ⟨rfl, P1.bad ((Kp.of HB0.out).trans ((Kp.alloc _ _ _).trans hk)) (by simp [aggS, hr, Rs.and])⟩)); have HK := hid ((Kp.alloc _ _ _).trans hk); have HQ := hid hq; have HR := hid hr; have HZ2 := hid (HK.out.blk HZ.out (fun e => by omega)); have hn6 : (n : Int) ≤ 6 := (by have := oneOf_lt hr; simp [aggW] at this; omega); have n1 : ¬ w.heap.size = w2.heap.size := (by have := lt_of_block HZ2.out; omega); have n2 : ¬ w2.heap.size = w.heap.size := (fun e => n1 e.symm); clear hk hq hr; rcases Nat.eq_zero_or_pos n with hz | hz; (focus (subst hz; have kz := block_cell ((Kp.alloc (fun _ => False) w2 (.cells #[.int .i64 1, .string ⟨#[]⟩] 80)).blk HZ2.out id); have fz := block_frozen ((Kp.alloc (fun _ => False) w2 (.cells #[.int .i64 1, .string ⟨#[]⟩] 80)).blk HZ2.out id); go_wp2_with fail; obtain ⟨a, b⟩ := Rq.back HR0.out HQ.out ((Kp.of HB0.out).trans HK.out) ((Kp.alloc (fun k => w.heap.size ≤ k) w2 (.cells #[.int .i64 1, .string ⟨#[]⟩] 80)).trans (Kp.set2 (Nat.le_refl _) _ (.int .i64 1) (.string ⟨#[]⟩))); have hb := block_set (block_set ((Kp.alloc (fun _ => False) w2 (.cells #[.int .i64 1, .string ⟨#[]⟩] 80)).blk HZ2.out id) 0 (.int .i64 1)) 1 (.string ⟨#[]⟩); exact ret_ag rfl rfl hb rfl rfl ⟨b, .inr ⟨(1, []), j, _, by simp [aggS, HR.out, Rs.and], rfl, rfl, a⟩⟩)); have hne1 : ((1 : Int) + (n : Int) != 1) = true := (by simp; omega); have HZn := hid hz; clear hz; have HQ2 := hid (HQ.out.on ((Below.refl _ _).alloc (Nat.le_refl _) (.cells #[.int .i64 (1 + (n : Int)), .string ⟨#[]⟩] 80))); have HBx := hid (alloc_block w2 (.cells #[.int .i64 (1 + (n : Int)), .string ⟨#[]⟩] 80)); have HZ3 := hid ((Kp.alloc (fun _ => False) w2 (.cells #[.int .i64 (1 + (n : Int)), .string ⟨#[]⟩] 80)).blk HZ2.out id); have HK3 := hid (Kp.alloc (fun k => k = rb) w2 (.cells #[.int .i64 (1 + (n : Int)), .string ⟨#[]⟩] 80)); have HL2 := hid HQ.out.lt)
    | (go_at_call 89; refine (name_any HQ2.out).mono ?_; rintro e w3 ⟨hk, ⟨j2, c, hr, rfl⟩ | ⟨s, j2, v, hr, rfl, rfl, hq⟩⟩; (focus (go_wp2_with fail; exact ⟨rfl, P1.bad ((Kp.of HB0.out).trans (HK.out.trans (HK3.out.trans hk))) (by simp [aggS, HR.out, hr, Rs.and, Nat.ne_of_gt HZn.out])⟩)); have HKn := hid hk; have HQn := hid hq; have HRn := hid hr; have HBx3 := hid (hk.blk HBx.out (fun e => by have := HL2.out; omega)); have HZ4 := hid (hk.blk HZ3.out (fun e => by omega)); have kb := block_cell HBx3.out; have fb := block_frozen HBx3.out; have kz := block_cell HZ4.out; have fz := block_frozen HZ4.out; clear hk hq hr))
  obtain ⟨a, b⟩ := Rq.back HR0.out HQn.out ((Kp.of HB0.out).trans (HK.out.trans (HK3.out.trans HKn.out))) ((Kp.set (T := fun k => w.heap.size ≤ k) (b := w2.heap.size) (i := 1) (by have := lt_of_block HZ2.out; omega) (.string (St s))).trans (Kp.set2 (g := w.heap.size) (Nat.le_refl _) _ (.int .i64 (1 + (n : Int))) (.string (St s))))
  have hb := block_set (block_set ((Kp.set (T := fun k => k = w2.heap.size) (b := w2.heap.size) (i := 1) rfl (.string (St s))).blk HZ4.out n1) 0 (.int .i64 (1 + (n : Int)))) 1 (.string (St s))
  exact ret_ag rfl rfl hb rfl rfl ⟨b, .inr ⟨(1 + (n : Int), s), j2, _, by simp [aggS, HR.out, HRn.out, Rs.and, Nat.ne_of_gt HZn.out], rfl, rfl, a⟩⟩
/- Where the reader stands. -/
def atOf (rb : Nat) (w : World) : Nat := match w.cell? ⟨rb, 1, none⟩ with
  | some (.int _ n) => n.toNat
  | _ => 0
theorem Rq.atOf (h : Rq B ts w rb tv sv o i qs) : atOf rb w = i := by
  unfold Go.Proofs.YtomnjckbgmbgmaaGreatDoor.atOf
  rw [h.cell 1]
  simp
theorem Own.rdr {α : Type} {enc : α → List Value} {k e n : Nat} {w' : World} {v : Value} {xs : List α} (h : Own enc k e n w v xs) (hq : Rq B ts w rb tv sv o i qs) (hk : Kp (fun k => k = rb) w w') (he : e ≠ 84) : Own enc k e n w' v xs :=
  h.kpk hk (fun g hT c t fz hc => by subst hT; rw [hq.blk] at hc; cases hc; exact fun e' => he e'.symm)
theorem lists_one (W : World) (x : List UInt8) : Own str1 1 9 W.heap.size (W.alloc (.cells #[.string (St x)] 9)) (.slice (some ⟨W.heap.size, 0, none⟩) 1 1) [x] :=
  Own.blk (enc := str1) (k := 1) (e := 9) (B := W.heap.size) (w := W.alloc (.cells #[.string (St x)] 9)) (xs := [x]) (fun _ => rfl) (Nat.le_refl _) (alloc_block W _) (by unfold maxLen; simp)
abbrev vlists (n : Nat) (w : World) (l : List (List UInt8)) (v : Value) : Prop := Own str1 1 9 n w v l
set_option maxRecDepth 100000 in
set_option maxHeartbeats 2000000 in
theorem lists_any (h : Rq B ts w rb tv sv o i qs) : Calls Tryz.prog 139 #[dp rb, .func (.func 89) #[dp rb] #[]] w (P1 B ts rb tv sv o qs w (vlists w.heap.size) (listS ts (nameS ts) i)) := by
  have HQ0 := hid h
  have HN := hid (name_any h)
  have htl := h.tl
  clear h
  have M1 : Hid True := trivial
  go_enter Tryz.func139, Tryz.ntmps139
  go_wp2_with (go_at_call 89; clear M1; refine HN.out.mono ?_; rintro e w1 ⟨hk, ⟨j, c, hr, rfl⟩ | ⟨x, j, v, hr, rfl, rfl, hq⟩⟩; (focus (go_wp2_with fail; exact ⟨rfl, P1.bad hk (by simp [listS, hr, Rs.and])⟩)); have HK := hid hk; have HQ := hid hq; have HR := hid hr; have HO := hid ((lists_one w1 x).le hk.size); have HQa := hid (hq.on ((Below.refl _ _).alloc (Nat.le_refl _) (.cells #[.string (St x)] 9))); have HKa := hid (hk.trans (Kp.alloc _ w1 (.cells #[.string (St x)] 9))); clear hk hq hr)
  generalize hw2 : w1.alloc (.cells #[.string (St x)] 9) = w2 at *
  have HL : Hid (listS ts (nameS ts) i = moreS ts (nameS ts) ts.length [x] j) := by show _ = _; simp only [listS, HR.out, Rs.and]
  clear HR HK HQ
  go_loopw [5] (fun u wr => ∃ (f j : Nat) (acc : List (List UInt8)), Hid (listS ts (nameS ts) i = moreS ts (nameS ts) f acc j) ∧ Hid (ts.length ≤ f + j ∧ acc.length ≤ j + 1) ∧ Hid (Own str1 1 9 w.heap.size wr u acc) ∧ Hid (Rq B ts wr rb tv sv o j qs) ∧ Hid (Kp (fun k => k = rb) w wr)) (fun _ wr => ts.length + 1 - atOf rb wr)
  case atStart => exact ⟨ts.length, j, [x], HL.out, ⟨by omega, by simp⟩, HO.out, HQa.out, HKa.out⟩
  case round =>
    obtain ⟨f, j, acc, HM, HF, HOr, HQr, HKr⟩ := hrel
    have HS := hid (skip_any HQr.out wComma)
    cases hw : isW ts j wComma with
    | true =>
      rw [hw] at HS
      have hj := isW_lt hw
      obtain ⟨f', rfl⟩ : ∃ f', f = f' + 1 := ⟨f - 1, by have := HF.out; omega⟩
      have HM2 : Hid (listS ts (nameS ts) i = (nameS ts (j + 1)).and fun x j => moreS ts (nameS ts) f' (acc ++ [x]) j) := by show _ = _; rw [HM.out, moreS, if_pos hw]
      have HJ := hid hj
      clear hw HM hj
      obtain ⟨pu, cu, rfl⟩ := HOr.out.form
      go_wp2_with (first
        | (go_at_call 52; refine HS.out.mono ?_; rintro e w3 ⟨rfl, hq, hk⟩; have HQ3 := hid hq; have HK3 := hid (HKr.out.trans hk); have HO3 := hid (HOr.out.rdr HQr.out hk (by decide)); clear hq hk)
        | (go_at_call 89; refine (name_any HQ3.out).mono ?_; rintro e w4 ⟨hk, ⟨j2, c, hr, rfl⟩ | ⟨y, j2, v, hr, rfl, rfl, hq⟩⟩; (focus (go_wp2_with fail; exact ⟨rfl, P1.bad (HK3.out.trans hk) (by rw [HM2.out]; simp only [if_true] at hr; rw [hr]; rfl)⟩)); have HK4 := hid (HK3.out.trans hk); have HQ4 := hid hq; have HR4 := hid hr; have HO4 := hid (HO3.out.rdr HQ3.out hk (by decide)); clear hk hq hr)
        | (at_builtin; refine app_N elem_str (fun _ => rfl) (by intro y _ c hc; simp at hc; subst hc; rfl) rfl _ _ rfl rfl (HO4.out.on ((Below.refl _ _).alloc (Nat.le_refl _) (.cells #[.string (St y)] 9))) rfl (Own.sl (lists_one w4 y) (fun _ => rfl)) (by simp) (by have := HF.out; have := HJ.out; simp; omega) (by decide) (by have := HK4.out.size; simp; omega) ?_; intro v5 w5 ho hg; have HO5 := hid ho; have HB5 := hid (Rq.back HQ0.out HQ4.out HK4.out ((Kp.alloc (fun k => w.heap.size ≤ k) w4 (.cells #[.string (St y)] 9)).trans (Kp.grown hg (fun k e => (HO4.out.at e).1)))); clear ho hg))
      have hgo := name_go ts _ _ _ HR4.out
      go_roundw
      case rel =>
        refine ⟨f', j2, acc ++ [y], ?_, ⟨by have := HF.out; simp at hgo; omega, by have := HF.out; simp at hgo; simp; omega⟩, HO5.out, HB5.out.1, HB5.out.2⟩
        show _ = _
        rw [HM2.out]
        have := HR4.out
        simp only [if_true] at this
        rw [this]; rfl
      case measure =>
        rw [HB5.out.1.atOf, HQr.out.atOf]; simp at hgo; omega
    | false =>
      rw [hw] at HS
      have HM2 : Hid (listS ts (nameS ts) i = .ok acc j) := by
        show _ = _
        rw [HM.out]
        cases f with
        | zero => rfl
        | succ f => rw [moreS, if_neg (by rw [hw]; decide)]
      clear hw HM
      obtain ⟨pu, cu, rfl⟩ := HOr.out.form
      go_wp2_with (go_at_call 52; refine HS.out.mono ?_; rintro e w3 ⟨rfl, hq, hk⟩; have HQ3 := hid hq; have HK3 := hid (HKr.out.trans hk); have HO3 := hid (HOr.out.rdr HQr.out hk (by decide)); clear hq hk)
      go_ret
      exact ⟨HK3.out, .inr ⟨acc, j, _, HM2.out, rfl, HO3.out, HQ3.out⟩⟩
theorem lista_one (W : World) (x : Int × List UInt8) : Own ag2 2 80 W.heap.size (W.alloc (.cells #[.int .i64 x.1, .string (St x.2)] 80)) (.slice (some ⟨W.heap.size, 0, none⟩) 1 1) [x] :=
  Own.blk (enc := ag2) (k := 2) (e := 80) (B := W.heap.size) (w := W.alloc (.cells #[.int .i64 x.1, .string (St x.2)] 80)) (xs := [x]) (fun _ => rfl) (Nat.le_refl _) (alloc_block W _) (by unfold maxLen; simp)
abbrev vlista (n : Nat) (w : World) (l : List (Int × List UInt8)) (v : Value) : Prop := Own ag2 2 80 n w v l
set_option maxRecDepth 100000 in
set_option maxHeartbeats 2000000 in
theorem lista_any (h : Rq B ts w rb tv sv o i qs) : Calls Tryz.prog 140 #[dp rb, .func (.func 141) #[dp rb] #[]] w (P1 B ts rb tv sv o qs w (vlista w.heap.size) (listS ts (aggS ts) i)) := by
  have HQ0 := hid h
  have HN := hid (agg_any h)
  have htl := h.tl
  clear h
  have M1 : Hid True := trivial
  go_enter Tryz.func140, Tryz.ntmps140
  go_wp2_with (go_at_call 141; clear M1; refine HN.out.mono ?_; rintro e w1 ⟨hk, ⟨j, c, hr, rfl⟩ | ⟨x, j, v, hr, rfl, rfl, hq⟩⟩; (focus (go_wp2_with fail; exact ⟨rfl, P1.bad hk (by simp [listS, hr, Rs.and])⟩)); have HK := hid hk; have HQ := hid hq; have HR := hid hr; have HO := hid ((lista_one w1 x).le hk.size); have HQa := hid (hq.on ((Below.refl _ _).alloc (Nat.le_refl _) (.cells #[.int .i64 x.1, .string (St x.2)] 80))); have HKa := hid (hk.trans (Kp.alloc _ w1 (.cells #[.int .i64 x.1, .string (St x.2)] 80))); clear hk hq hr)
  generalize hw2 : w1.alloc (.cells #[.int .i64 x.1, .string (St x.2)] 80) = w2 at *
  have HL : Hid (listS ts (aggS ts) i = moreS ts (aggS ts) ts.length [x] j) := by show _ = _; simp only [listS, HR.out, Rs.and]
  clear HR HK HQ
  go_loopw [5] (fun u wr => ∃ (f j : Nat) (acc : List (Int × List UInt8)), Hid (listS ts (aggS ts) i = moreS ts (aggS ts) f acc j) ∧ Hid (ts.length ≤ f + j ∧ acc.length ≤ j + 1) ∧ Hid (Own ag2 2 80 w.heap.size wr u acc) ∧ Hid (Rq B ts wr rb tv sv o j qs) ∧ Hid (Kp (fun k => k = rb) w wr)) (fun _ wr => ts.length + 1 - atOf rb wr)
  case atStart => exact ⟨ts.length, j, [x], HL.out, ⟨by omega, by simp⟩, HO.out, HQa.out, HKa.out⟩
  case round =>
    obtain ⟨f, j, acc, HM, HF, HOr, HQr, HKr⟩ := hrel
    have HS := hid (skip_any HQr.out wComma)
    cases hw : isW ts j wComma with
    | true =>
      rw [hw] at HS
      have hj := isW_lt hw
      obtain ⟨f', rfl⟩ : ∃ f', f = f' + 1 := ⟨f - 1, by have := HF.out; omega⟩
      have HM2 : Hid (listS ts (aggS ts) i = (aggS ts (j + 1)).and fun x j => moreS ts (aggS ts) f' (acc ++ [x]) j) := by show _ = _; rw [HM.out, moreS, if_pos hw]
      have HJ := hid hj
      clear hw HM hj
      obtain ⟨pu, cu, rfl⟩ := HOr.out.form
      go_wp2_with (first
        | (go_at_call 52; refine HS.out.mono ?_; rintro e w3 ⟨rfl, hq, hk⟩; have HQ3 := hid hq; have HK3 := hid (HKr.out.trans hk); have HO3 := hid (HOr.out.rdr HQr.out hk (by decide)); clear hq hk)
        | (go_at_call 141; refine (agg_any HQ3.out).mono ?_; rintro e w4 ⟨hk, ⟨j2, c, hr, rfl⟩ | ⟨y, j2, v, hr, rfl, rfl, hq⟩⟩; (focus (go_wp2_with fail; exact ⟨rfl, P1.bad (HK3.out.trans hk) (by rw [HM2.out]; simp only [if_true] at hr; rw [hr]; rfl)⟩)); have HK4 := hid (HK3.out.trans hk); have HQ4 := hid hq; have HR4 := hid hr; have HO4 := hid (HO3.out.rdr HQ3.out hk (by decide)); clear hk hq hr)
        | (at_builtin; refine app_N elem_agg (fun _ => rfl) (by intro y _ c hc; simp at hc; rcases hc with rfl | rfl <;> rfl) rfl _ _ rfl rfl (HO4.out.on ((Below.refl _ _).alloc (Nat.le_refl _) (.cells #[.int .i64 y.1, .string (St y.2)] 80))) rfl (Own.sl (lista_one w4 y) (fun _ => rfl)) (by simp) (by have := HF.out; have := HJ.out; simp; omega) (by decide) (by have := HK4.out.size; simp; omega) ?_; intro v5 w5 ho hg; have HO5 := hid ho; have HB5 := hid (Rq.back HQ0.out HQ4.out HK4.out ((Kp.alloc (fun k => w.heap.size ≤ k) w4 (.cells #[.int .i64 y.1, .string (St y.2)] 80)).trans (Kp.grown hg (fun k e => (HO4.out.at e).1)))); clear ho hg))
      have hgo := agg_go ts _ _ _ HR4.out
      go_roundw
      case rel =>
        refine ⟨f', j2, acc ++ [y], ?_, ⟨by have := HF.out; simp at hgo; omega, by have := HF.out; simp at hgo; simp; omega⟩, HO5.out, HB5.out.1, HB5.out.2⟩
        show _ = _
        rw [HM2.out]
        have := HR4.out
        simp only [if_true] at this
        rw [this]; rfl
      case measure =>
        rw [HB5.out.1.atOf, HQr.out.atOf]; simp at hgo; omega
    | false =>
      rw [hw] at HS
      have HM2 : Hid (listS ts (aggS ts) i = .ok acc j) := by
        show _ = _
        rw [HM.out]
        cases f with
        | zero => rfl
        | succ f => rw [moreS, if_neg (by rw [hw]; decide)]
      clear hw HM
      obtain ⟨pu, cu, rfl⟩ := HOr.out.form
      go_wp2_with (go_at_call 52; refine HS.out.mono ?_; rintro e w3 ⟨rfl, hq, hk⟩; have HQ3 := hid hq; have HK3 := hid (HKr.out.trans hk); have HO3 := hid (HOr.out.rdr HQr.out hk (by decide)); clear hq hk)
      go_ret
      exact ⟨HK3.out, .inr ⟨acc, j, _, HM2.out, rfl, HO3.out, HQ3.out⟩⟩
end
end Go.Proofs.YtomnjckbgmbgmaaGreatDoor
