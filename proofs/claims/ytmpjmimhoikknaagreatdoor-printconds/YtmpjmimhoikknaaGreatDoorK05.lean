/-
  What agg, the two lists, lay and end do.
  What lay and end do.
-/
import Derived.Test.YtmpjmimhoikknaaGreatDoorK04
namespace Go.Proofs.YtmpjmimhoikknaaGreatDoor
open Go.RowKit Go.Joins

section
variable {B : Nat} {ts : List Tp} {w : World} {rb : Nat} {tv sv : Value} {o i : Nat} {qs : List Nd}
abbrev zAg : Array Value := #[.int .i64 0, .string ⟨#[]⟩]
abbrev vAg (_ : World) (x : Int × List UInt8) (v : Value) : Prop := v = .agg #[.int .i64 x.1, .string (St x.2)]
theorem Kp.set2 {n g : Nat} (hn : n ≤ g) (w : World) (d0 d1 : Value) : Kp (fun k => n ≤ k) w ((w.setCell ⟨g, 0, none⟩ d0).setCell ⟨g, 1, none⟩ d1) :=
  (Kp.set (T := fun k => n ≤ k) hn _).trans (Kp.set (T := fun k => n ≤ k) hn _)
set_option maxRecDepth 100000 in
set_option maxHeartbeats 2000000 in
theorem agg_any (h : Rq B ts w rb tv sv o i qs) : Calls Tryz.prog 213 #[dp rb] w (P1 B ts rb tv sv o qs w vAg (aggS ts i)) := by
  have HB0 : Hid (Below w.heap.size w (w.alloc (.cells zAg 61))) := (Below.refl _ _).alloc (Nat.le_refl _) _
  have HZ := hid (alloc_block w (.cells zAg 61))
  have HQ0 := hid (h.on HB0.out)
  have HR0 := hid h
  have hrl := h.lt
  generalize hW : w.alloc (.cells zAg 61) = w1 at *
  have HW := hid hW
  clear h hW
  go_enter Tryz.func213, Tryz.ntmps213
  go_upto_region 1 with fail
  rw [HW.out]
  go_wp2_with (first
    | (go_at_call 228; refine (oneOf_lits HQ0.out aggW (cs := aggC) (n := 6) rfl rfl (by decide)).mono ?_; rintro e w2 ⟨hk, ⟨j, c, hr, rfl⟩ | ⟨n, j, v, hr, rfl, rfl, hq⟩⟩; (focus (go_wp2_with fail; exact ⟨rfl, P1.bad ((Kp.of HB0.out).trans ((Kp.alloc _ _ _).trans hk)) (by simp [aggS, hr, Rs.and])⟩)); have HK := hid ((Kp.alloc _ _ _).trans hk); have HQ := hid hq; have HR := hid hr; have HZ2 := hid (HK.out.blk HZ.out (fun e => by omega)); have hn6 : (n : Int) ≤ 6 := (by have := oneOf_lt hr; simp [aggW] at this; omega); have n1 : ¬ w.heap.size = w2.heap.size := (by have := lt_of_block HZ2.out; omega); have n2 : ¬ w2.heap.size = w.heap.size := (fun e => n1 e.symm); clear hk hq hr; rcases Nat.eq_zero_or_pos n with hz | hz; (focus (subst hz; have kz := block_cell ((Kp.alloc (fun _ => False) w2 (.cells #[.int .i64 1, .string ⟨#[]⟩] 61)).blk HZ2.out id); have fz := block_frozen ((Kp.alloc (fun _ => False) w2 (.cells #[.int .i64 1, .string ⟨#[]⟩] 61)).blk HZ2.out id); go_wp2_with fail; obtain ⟨a, b⟩ := Rq.back HR0.out HQ.out ((Kp.of HB0.out).trans HK.out) ((Kp.alloc (fun k => w.heap.size ≤ k) w2 (.cells #[.int .i64 1, .string ⟨#[]⟩] 61)).trans (Kp.set2 (Nat.le_refl _) _ (.int .i64 1) (.string ⟨#[]⟩))); have hb := block_set (block_set ((Kp.alloc (fun _ => False) w2 (.cells #[.int .i64 1, .string ⟨#[]⟩] 61)).blk HZ2.out id) 0 (.int .i64 1)) 1 (.string ⟨#[]⟩); exact ret_ag rfl rfl hb rfl rfl ⟨b, .inr ⟨(1, []), j, _, by simp [aggS, HR.out, Rs.and], rfl, rfl, a⟩⟩)); have hne1 : ((1 : Int) + (n : Int) != 1) = true := (by simp; omega); have HZn := hid hz; clear hz; have HQ2 := hid (HQ.out.on ((Below.refl _ _).alloc (Nat.le_refl _) (.cells #[.int .i64 (1 + (n : Int)), .string ⟨#[]⟩] 61))); have HBx := hid (alloc_block w2 (.cells #[.int .i64 (1 + (n : Int)), .string ⟨#[]⟩] 61)); have HZ3 := hid ((Kp.alloc (fun _ => False) w2 (.cells #[.int .i64 (1 + (n : Int)), .string ⟨#[]⟩] 61)).blk HZ2.out id); have HK3 := hid (Kp.alloc (fun k => k = rb) w2 (.cells #[.int .i64 (1 + (n : Int)), .string ⟨#[]⟩] 61)); have HL2 := hid HQ.out.lt)
    | (go_at_call 147; refine (name_any HQ2.out).mono ?_; rintro e w3 ⟨hk, ⟨j2, c, hr, rfl⟩ | ⟨s, j2, v, hr, rfl, rfl, hq⟩⟩; (focus (go_wp2_with fail; exact ⟨rfl, P1.bad ((Kp.of HB0.out).trans (HK.out.trans (HK3.out.trans hk))) (by simp [aggS, HR.out, hr, Rs.and, Nat.ne_of_gt HZn.out])⟩)); have HKn := hid hk; have HQn := hid hq; have HRn := hid hr; have HBx3 := hid (hk.blk HBx.out (fun e => by have := HL2.out; omega)); have HZ4 := hid (hk.blk HZ3.out (fun e => by omega)); have kb := block_cell HBx3.out; have fb := block_frozen HBx3.out; have kz := block_cell HZ4.out; have fz := block_frozen HZ4.out; clear hk hq hr))
  obtain ⟨a, b⟩ := Rq.back HR0.out HQn.out ((Kp.of HB0.out).trans (HK.out.trans (HK3.out.trans HKn.out))) ((Kp.set (T := fun k => w.heap.size ≤ k) (b := w2.heap.size) (i := 1) (by have := lt_of_block HZ2.out; omega) (.string (St s))).trans (Kp.set2 (g := w.heap.size) (Nat.le_refl _) _ (.int .i64 (1 + (n : Int))) (.string (St s))))
  have hb := block_set (block_set ((Kp.set (T := fun k => k = w2.heap.size) (b := w2.heap.size) (i := 1) rfl (.string (St s))).blk HZ4.out n1) 0 (.int .i64 (1 + (n : Int)))) 1 (.string (St s))
  exact ret_ag rfl rfl hb rfl rfl ⟨b, .inr ⟨(1 + (n : Int), s), j2, _, by simp [aggS, HR.out, HRn.out, Rs.and, Nat.ne_of_gt HZn.out], rfl, rfl, a⟩⟩
/- Where the reader stands. -/
def atOf (rb : Nat) (w : World) : Nat := match w.cell? ⟨rb, 1, none⟩ with
  | some (.int _ n) => n.toNat
  | _ => 0
theorem Rq.atOf (h : Rq B ts w rb tv sv o i qs) : atOf rb w = i := by
  unfold Go.Proofs.YtmpjmimhoikknaaGreatDoor.atOf
  rw [h.cell 1]
  simp
theorem Own.rdr {α : Type} {enc : α → List Value} {k e n : Nat} {w' : World} {v : Value} {xs : List α} (h : Own enc k e n w v xs) (hq : Rq B ts w rb tv sv o i qs) (hk : Kp (fun k => k = rb) w w') (he : e ≠ 151) : Own enc k e n w' v xs :=
  h.kpk hk (fun g hT c t fz hc => by subst hT; rw [hq.blk] at hc; cases hc; exact fun e' => he e'.symm)
theorem lists_one (W : World) (x : List UInt8) : Own str1 1 9 W.heap.size (W.alloc (.cells #[.string (St x)] 9)) (.slice (some ⟨W.heap.size, 0, none⟩) 1 1) [x] :=
  Own.blk (enc := str1) (k := 1) (e := 9) (B := W.heap.size) (w := W.alloc (.cells #[.string (St x)] 9)) (xs := [x]) (fun _ => rfl) (Nat.le_refl _) (alloc_block W _) (by unfold maxLen; simp)
abbrev vlists (n : Nat) (w : World) (l : List (List UInt8)) (v : Value) : Prop := Own str1 1 9 n w v l
set_option maxRecDepth 100000 in
set_option maxHeartbeats 2000000 in
theorem lists_any (h : Rq B ts w rb tv sv o i qs) : Calls Tryz.prog 211 #[dp rb, .func (.func 147) #[dp rb] #[]] w (P1 B ts rb tv sv o qs w (vlists w.heap.size) (listS ts (nameS ts) i)) := by
  have HQ0 := hid h
  have HN := hid (name_any h)
  have htl := h.tl
  clear h
  have M1 : Hid True := trivial
  go_enter Tryz.func211, Tryz.ntmps211
  go_wp2_with (go_at_call 147; clear M1; refine HN.out.mono ?_; rintro e w1 ⟨hk, ⟨j, c, hr, rfl⟩ | ⟨x, j, v, hr, rfl, rfl, hq⟩⟩; (focus (go_wp2_with fail; exact ⟨rfl, P1.bad hk (by simp [listS, hr, Rs.and])⟩)); have HK := hid hk; have HQ := hid hq; have HR := hid hr; have HO := hid ((lists_one w1 x).le hk.size); have HQa := hid (hq.on ((Below.refl _ _).alloc (Nat.le_refl _) (.cells #[.string (St x)] 9))); have HKa := hid (hk.trans (Kp.alloc _ w1 (.cells #[.string (St x)] 9))); clear hk hq hr)
  generalize hw2 : w1.alloc (.cells #[.string (St x)] 9) = w2 at *
  have HL : Hid (listS ts (nameS ts) i = moreS ts (nameS ts) ts.length [x] j) := by show _ = _; simp only [listS, HR.out, Rs.and]
  clear HR HK HQ
  go_loopw [5] (fun u wr => ∃ (f j : Nat) (acc : List (List UInt8)), Hid (listS ts (nameS ts) i = moreS ts (nameS ts) f acc j) ∧ Hid (ts.length ≤ f + j ∧ acc.length ≤ j + 1) ∧ Hid (Own str1 1 9 w.heap.size wr u acc) ∧ Hid (Rq B ts wr rb tv sv o j qs) ∧ Hid (Kp (fun k => k = rb) w wr)) (fun _ wr => ts.length + 1 - atOf rb wr)
  case atStart => exact ⟨ts.length, j, [x], HL.out, ⟨by omega, by simp⟩, HO.out, HQa.out, HKa.out⟩
  case round =>
    obtain ⟨f, j, acc, HM, HF, HOr, HQr, HKr⟩ := hrel
    have HS := hid (skip_any HQr.out wComma)
    cases hw : isW ts j wComma with
    | true =>
      rw [hw] at HS
      have hj := isW_lt hw
      obtain ⟨f', rfl⟩ : ∃ f', f = f' + 1 := ⟨f - 1, by have := HF.out; omega⟩
      have HM2 : Hid (listS ts (nameS ts) i = (nameS ts (j + 1)).and fun x j => moreS ts (nameS ts) f' (acc ++ [x]) j) := by show _ = _; rw [HM.out, moreS, if_pos hw]
      have HJ := hid hj
      clear hw HM hj
      obtain ⟨pu, cu, rfl⟩ := HOr.out.form
      go_wp2_with (first
        | (go_at_call 110; refine HS.out.mono ?_; rintro e w3 ⟨rfl, hq, hk⟩; have HQ3 := hid hq; have HK3 := hid (HKr.out.trans hk); have HO3 := hid (HOr.out.rdr HQr.out hk (by decide)); clear hq hk)
        | (go_at_call 147; refine (name_any HQ3.out).mono ?_; rintro e w4 ⟨hk, ⟨j2, c, hr, rfl⟩ | ⟨y, j2, v, hr, rfl, rfl, hq⟩⟩; (focus (go_wp2_with fail; exact ⟨rfl, P1.bad (HK3.out.trans hk) (by rw [HM2.out]; simp only [if_true] at hr; rw [hr]; rfl)⟩)); have HK4 := hid (HK3.out.trans hk); have HQ4 := hid hq; have HR4 := hid hr; have HO4 := hid (HO3.out.rdr HQ3.out hk (by decide)); clear hk hq hr)
        | (at_builtin; refine app_N elem_str (fun _ => rfl) (by intro y _ c hc; simp at hc; subst hc; rfl) rfl _ _ rfl rfl (HO4.out.on ((Below.refl _ _).alloc (Nat.le_refl _) (.cells #[.string (St y)] 9))) rfl (Own.sl (lists_one w4 y) (fun _ => rfl)) (by simp) (by have := HF.out; have := HJ.out; simp; omega) (by decide) (by have := HK4.out.size; simp; omega) ?_; intro v5 w5 ho hg; have HO5 := hid ho; have HB5 := hid (Rq.back HQ0.out HQ4.out HK4.out ((Kp.alloc (fun k => w.heap.size ≤ k) w4 (.cells #[.string (St y)] 9)).trans (Kp.grown hg (fun k e => (HO4.out.at e).1)))); clear ho hg))
      have hgo := name_go ts _ _ _ HR4.out
      go_roundw
      case rel =>
        refine ⟨f', j2, acc ++ [y], ?_, ⟨by have := HF.out; simp at hgo; omega, by have := HF.out; simp at hgo; simp; omega⟩, HO5.out, HB5.out.1, HB5.out.2⟩
        show _ = _
        rw [HM2.out]
        have := HR4.out
        simp only [if_true] at this
        rw [this]; rfl
      case measure =>
        rw [HB5.out.1.atOf, HQr.out.atOf]; simp at hgo; omega
    | false =>
      rw [hw] at HS
      have HM2 : Hid (listS ts (nameS ts) i = .ok acc j) := by
        show _ = _
        rw [HM.out]
        cases f with
        | zero => rfl
        | succ f => rw [moreS, if_neg (by rw [hw]; decide)]
      clear hw HM
      obtain ⟨pu, cu, rfl⟩ := HOr.out.form
      go_wp2_with (go_at_call 110; refine HS.out.mono ?_; rintro e w3 ⟨rfl, hq, hk⟩; have HQ3 := hid hq; have HK3 := hid (HKr.out.trans hk); have HO3 := hid (HOr.out.rdr HQr.out hk (by decide)); clear hq hk)
      go_ret
      exact ⟨HK3.out, .inr ⟨acc, j, _, HM2.out, rfl, HO3.out, HQ3.out⟩⟩
theorem lista_one (W : World) (x : Int × List UInt8) : Own ag2 2 61 W.heap.size (W.alloc (.cells #[.int .i64 x.1, .string (St x.2)] 61)) (.slice (some ⟨W.heap.size, 0, none⟩) 1 1) [x] :=
  Own.blk (enc := ag2) (k := 2) (e := 61) (B := W.heap.size) (w := W.alloc (.cells #[.int .i64 x.1, .string (St x.2)] 61)) (xs := [x]) (fun _ => rfl) (Nat.le_refl _) (alloc_block W _) (by unfold maxLen; simp)
abbrev vlista (n : Nat) (w : World) (l : List (Int × List UInt8)) (v : Value) : Prop := Own ag2 2 61 n w v l
set_option maxRecDepth 100000 in
set_option maxHeartbeats 2000000 in
theorem lista_any (h : Rq B ts w rb tv sv o i qs) : Calls Tryz.prog 212 #[dp rb, .func (.func 213) #[dp rb] #[]] w (P1 B ts rb tv sv o qs w (vlista w.heap.size) (listS ts (aggS ts) i)) := by
  have HQ0 := hid h
  have HN := hid (agg_any h)
  have htl := h.tl
  clear h
  have M1 : Hid True := trivial
  go_enter Tryz.func212, Tryz.ntmps212
  go_wp2_with (go_at_call 213; clear M1; refine HN.out.mono ?_; rintro e w1 ⟨hk, ⟨j, c, hr, rfl⟩ | ⟨x, j, v, hr, rfl, rfl, hq⟩⟩; (focus (go_wp2_with fail; exact ⟨rfl, P1.bad hk (by simp [listS, hr, Rs.and])⟩)); have HK := hid hk; have HQ := hid hq; have HR := hid hr; have HO := hid ((lista_one w1 x).le hk.size); have HQa := hid (hq.on ((Below.refl _ _).alloc (Nat.le_refl _) (.cells #[.int .i64 x.1, .string (St x.2)] 61))); have HKa := hid (hk.trans (Kp.alloc _ w1 (.cells #[.int .i64 x.1, .string (St x.2)] 61))); clear hk hq hr)
  generalize hw2 : w1.alloc (.cells #[.int .i64 x.1, .string (St x.2)] 61) = w2 at *
  have HL : Hid (listS ts (aggS ts) i = moreS ts (aggS ts) ts.length [x] j) := by show _ = _; simp only [listS, HR.out, Rs.and]
  clear HR HK HQ
  go_loopw [5] (fun u wr => ∃ (f j : Nat) (acc : List (Int × List UInt8)), Hid (listS ts (aggS ts) i = moreS ts (aggS ts) f acc j) ∧ Hid (ts.length ≤ f + j ∧ acc.length ≤ j + 1) ∧ Hid (Own ag2 2 61 w.heap.size wr u acc) ∧ Hid (Rq B ts wr rb tv sv o j qs) ∧ Hid (Kp (fun k => k = rb) w wr)) (fun _ wr => ts.length + 1 - atOf rb wr)
  case atStart => exact ⟨ts.length, j, [x], HL.out, ⟨by omega, by simp⟩, HO.out, HQa.out, HKa.out⟩
  case round =>
    obtain ⟨f, j, acc, HM, HF, HOr, HQr, HKr⟩ := hrel
    have HS := hid (skip_any HQr.out wComma)
    cases hw : isW ts j wComma with
    | true =>
      rw [hw] at HS
      have hj := isW_lt hw
      obtain ⟨f', rfl⟩ : ∃ f', f = f' + 1 := ⟨f - 1, by have := HF.out; omega⟩
      have HM2 : Hid (listS ts (aggS ts) i = (aggS ts (j + 1)).and fun x j => moreS ts (aggS ts) f' (acc ++ [x]) j) := by show _ = _; rw [HM.out, moreS, if_pos hw]
      have HJ := hid hj
      clear hw HM hj
      obtain ⟨pu, cu, rfl⟩ := HOr.out.form
      go_wp2_with (first
        | (go_at_call 110; refine HS.out.mono ?_; rintro e w3 ⟨rfl, hq, hk⟩; have HQ3 := hid hq; have HK3 := hid (HKr.out.trans hk); have HO3 := hid (HOr.out.rdr HQr.out hk (by decide)); clear hq hk)
        | (go_at_call 213; refine (agg_any HQ3.out).mono ?_; rintro e w4 ⟨hk, ⟨j2, c, hr, rfl⟩ | ⟨y, j2, v, hr, rfl, rfl, hq⟩⟩; (focus (go_wp2_with fail; exact ⟨rfl, P1.bad (HK3.out.trans hk) (by rw [HM2.out]; simp only [if_true] at hr; rw [hr]; rfl)⟩)); have HK4 := hid (HK3.out.trans hk); have HQ4 := hid hq; have HR4 := hid hr; have HO4 := hid (HO3.out.rdr HQ3.out hk (by decide)); clear hk hq hr)
        | (at_builtin; refine app_N elem_agg (fun _ => rfl) (by intro y _ c hc; simp at hc; rcases hc with rfl | rfl <;> rfl) rfl _ _ rfl rfl (HO4.out.on ((Below.refl _ _).alloc (Nat.le_refl _) (.cells #[.int .i64 y.1, .string (St y.2)] 61))) rfl (Own.sl (lista_one w4 y) (fun _ => rfl)) (by simp) (by have := HF.out; have := HJ.out; simp; omega) (by decide) (by have := HK4.out.size; simp; omega) ?_; intro v5 w5 ho hg; have HO5 := hid ho; have HB5 := hid (Rq.back HQ0.out HQ4.out HK4.out ((Kp.alloc (fun k => w.heap.size ≤ k) w4 (.cells #[.int .i64 y.1, .string (St y.2)] 61)).trans (Kp.grown hg (fun k e => (HO4.out.at e).1)))); clear ho hg))
      have hgo := agg_go ts _ _ _ HR4.out
      go_roundw
      case rel =>
        refine ⟨f', j2, acc ++ [y], ?_, ⟨by have := HF.out; simp at hgo; omega, by have := HF.out; simp at hgo; simp; omega⟩, HO5.out, HB5.out.1, HB5.out.2⟩
        show _ = _
        rw [HM2.out]
        have := HR4.out
        simp only [if_true] at this
        rw [this]; rfl
      case measure =>
        rw [HB5.out.1.atOf, HQr.out.atOf]; simp at hgo; omega
    | false =>
      rw [hw] at HS
      have HM2 : Hid (listS ts (aggS ts) i = .ok acc j) := by
        show _ = _
        rw [HM.out]
        cases f with
        | zero => rfl
        | succ f => rw [moreS, if_neg (by rw [hw]; decide)]
      clear hw HM
      obtain ⟨pu, cu, rfl⟩ := HOr.out.form
      go_wp2_with (go_at_call 110; refine HS.out.mono ?_; rintro e w3 ⟨rfl, hq, hk⟩; have HQ3 := hid hq; have HK3 := hid (HKr.out.trans hk); have HO3 := hid (HOr.out.rdr HQr.out hk (by decide)); clear hq hk)
      go_ret
      exact ⟨HK3.out, .inr ⟨acc, j, _, HM2.out, rfl, HO3.out, HQ3.out⟩⟩
end
end Go.Proofs.YtmpjmimhoikknaaGreatDoor
namespace Go.Proofs.YtmpjmimhoikknaaGreatDoor
open Go.RowKit Go.Joins

section
variable {B : Nat} {ts : List Tp} {w : World} {rb : Nat} {tv sv : Value} {o i : Nat} {qs : List Nd}
theorem how_bad {s : List UInt8} {j j2 : Nat} {c : Int} (h1 : nameS ts i = .ok s j) (h2 : isW ts j wHas = false) (h3 : howS ts j = .bad j2 c) : testS ts i = .bad j2 c := by
  unfold howS at h3
  cases h4 : oneOfS ts howW j with
  | bad a b => rw [h4] at h3; simp only [Rs.and] at h3; simp [testS, h1, h2, h4, Rs.and]; simpa using h3
  | ok a b => rw [h4] at h3; simp only [Rs.and] at h3; cases h3
theorem value_bad {s : List UInt8} {j j2 j3 : Nat} {x c : Int} (h1 : nameS ts i = .ok s j) (h2 : isW ts j wHas = false) (h3 : howS ts j = .ok x j2) (h5 : valueS ts j2 = .bad j3 c) : testS ts i = .bad j3 c := by
  unfold howS at h3
  cases h4 : oneOfS ts howW j with
  | bad a b => rw [h4] at h3; simp only [Rs.and] at h3; cases h3
  | ok a b => rw [h4] at h3; simp only [Rs.and] at h3; cases h3; simp [testS, h1, h2, h4, h5, Rs.and]
theorem value_ok {s : List UInt8} {j j2 j3 : Nat} {x : Int} {y : Int × Int × List UInt8} (h1 : nameS ts i = .ok s j) (h2 : isW ts j wHas = false) (h3 : howS ts j = .ok x j2) (h5 : valueS ts j2 = .ok y j3) : testS ts i = .ok { n0 with kind := 14, s := s, n := x, vk := y.1, vn := y.2.1, vs := y.2.2 } j3 := by
  unfold howS at h3
  cases h4 : oneOfS ts howW j with
  | bad a b => rw [h4] at h3; simp only [Rs.and] at h3; cases h3
  | ok a b => rw [h4] at h3; simp only [Rs.and] at h3; cases h3; simp [testS, h1, h2, h4, h5, Rs.and]
theorem Rq.B_le (h : Rq B ts w rb tv sv o i qs) : B ≤ w.heap.size := by have := h.bB; have := h.lt; omega
theorem lay_app {W w3 : World} {v' : Value} {q : Nd} (h : Rq B ts w rb tv sv o i qs) (hb : Below w.heap.size w W) (hown : Own Nd.cells 19 44 B w3 v' (qs ++ [q])) (hgr : W.grownBy w3 sv.ownBlock) (hat : At W sv v') (hq : NdIn B w q) (hl : qs.length + 1 ≤ i) :
    w3.heap[rb]? = some (.cells #[tv, .int .i64 (i : Int), .int .i64 (o : Int), sv] 151 (0, 0)) ∧ Rq B ts (w3.setCell ⟨rb, 3, none⟩ v') rb tv v' o i (qs ++ [q]) ∧ At w sv v' ∧ Kp (Tq rb sv) w (w3.setCell ⟨rb, 3, none⟩ v') := by
  have h2 := h.on hb
  have k3 : Kp (fun k => sv.ownBlock = some k) W w3 := Kp.grown hgr (fun k e => e)
  have c1 := k3.blk h2.blk (fun e => h.ne _ e rfl)
  have ks : Kp (fun k => k = rb) w3 (w3.setCell ⟨rb, 3, none⟩ v') := Kp.set (T := fun k => k = rb) rfl _
  have hall : Kp (Tq rb sv) w (w3.setCell ⟨rb, 3, none⟩ v') := ((Kp.of hb).trans' k3 (fun i _ e => .inr e)).trans' ks (fun i _ e => .inl e)
  have ho := hown.kp ks (fun k e e2 => by subst e2; obtain ⟨c, fz, hc⟩ := hown.kind e; rw [c1] at hc; cases hc)
  refine ⟨c1, ⟨h.bB, ?_, ho, ?_, ?_, h.il, h.tl, by simp; omega, h.ol⟩, ?_, hall⟩
  · have := block_set c1 3 v'; simpa using this
  · intro x hx
    rcases List.mem_append.1 hx with hx | hx
    · exact (h.each x hx).kp hall h.tk
    · simp at hx; subst hx; exact hq.kp hall h.tk
  · exact h.tok.kp hall (fun b hb hT => by have := h.T_ge b hT; omega)
  · exact fun k hk => (hat k hk).imp id (fun e => Nat.le_trans hb.size e)
/- What a row of nodes is after lay. -/
def LyP (B : Nat) (ts : List Tp) (rb : Nat) (tv sv : Value) (o i : Nat) (qs : List Nd) (w : World) (q : Nd) (e : Ending) (w' : World) : Prop :=
  e = .returned (.int .i64 (qs.length : Int)) ∧ ∃ sv', Rq B ts w' rb tv sv' o i (qs ++ [q]) ∧ At w sv sv' ∧ Kp (Tq rb sv) w w'
abbrev S6 (bx : Nat) (C : Array Value) (W : World) : Prop := W.heap[bx]? = some (.cells C 44 (0, 0))
theorem s6_range {bx : Nat} {q : Nd} {W : World} (h : S6 bx q.cells.toArray W) : W.rangeAt bx 0 q.cells := fun j v hv => by rw [block_cell h, Nat.zero_add]; simpa using hv
theorem buildS_one (W : World) (q : Nd) : (Instr.buildSlice 22 1 #[(0, .agg q.cells.toArray)]).run Tryz.prog W = .ok (.slice (some ⟨W.heap.size, 0, none⟩) 1 1) (W.alloc (.cells ([q].flatMap Nd.cells).toArray 44)) := by
  kernel_rfl
theorem step_bs {ops : Array Oper} {o : Oper} {a : Act} {w : World} {K : Act → World → Prop} {Q : Exit → Act → World → Prop} {E : Prop} {q : Nd} (hgd : o.guard = none) (x : Operand) (ho : o.op = .buildSlice 22 1 #[(0, x)]) (hx : a.eval x = .agg q.cells.toArray)
    (h : K (a.put o.dst (.slice (some ⟨w.heap.size, 0, none⟩) 1 1)) (w.alloc (.cells ([q].flatMap Nd.cells).toArray 44))) : if Region.wanted o (yielded ops a.tmps) = true then Oper.wp Tryz.prog o a w K Q else E := by
  have hw : Region.wanted o (yielded ops a.tmps) = true := by simp [Region.wanted, hgd]
  rw [if_pos hw]
  unfold Oper.wp execOp
  simp only [ho, List.map_toArray, List.map_cons, List.map_nil, hx, Sem.run_bind, Sem.run_pure, buildS_one, Result.andThen_ok]
  exact h
set_option maxRecDepth 100000 in
set_option maxHeartbeats 4000000 in
theorem lay_any (h : Rq B ts w rb tv sv o i qs) {q : Nd} (hq : NdIn B w q) (hl : qs.length + 1 ≤ i) : Calls Tryz.prog 108 #[dp rb, .agg q.cells.toArray] w (LyP B ts rb tv sv o i qs w q) := by
  obtain ⟨p, c, rfl⟩ := h.own.form
  have HK0 := hid h
  have HB : Hid (Below w.heap.size w (w.alloc (.cells q.cells.toArray 44 (0, 0)))) := (Below.refl _ _).alloc (Nat.le_refl _) _
  have HK := hid (h.on HB.out)
  have HQn := hid hq
  have HAll := hid hq.all
  have HLl := hid hl
  have hS0 : S6 w.heap.size q.cells.toArray (w.alloc (.cells q.cells.toArray 44 (0, 0))) := alloc_block w _
  have k0 := HK.out.cell
  have HLq : Hid (w.heap.size < (w.alloc (.cells q.cells.toArray 44 (0, 0))).heap.size) := by show _ < _; simp
  have hq1024 : (qs.length : Int) ≤ 1024 := by have := h.ql; have := h.il; have := h.tl; omega
  generalize hW : w.alloc (.cells q.cells.toArray 44 (0, 0)) = w1 at *
  have HW := hid hW
  have HSb := hid hS0
  clear h hW hq hl
  generalize hln : qs.length = ln at *
  have HLn := hid hln
  clear hln
  have HNb : Hid (w.heap.size ≠ rb) := fun e1 => by have := lt_of_block HK0.out.blk; omega
  go_enter Tryz.func108, Tryz.ntmps108
  go_upto_region 1 with fail
  rw [HW.out]
  refine wp_region_held_drew (S := S6 w.heap.size q.cells.toArray) (by kernel_rfl) hS0 (fun hT => ?_)
  refine wpAnyH_take (i := 0) (v := ?_) rfl (by kernel_rfl) (by kernel_rfl) (by kernel_rfl) (fun _ _ _ h => h) (Or.inl ⟨by rfl, ?_⟩) hT ?_
  rotate_left
  · intro w hSw
    go_simp
    try (with_reducible rfl)
  try go_frame
  refine wpAnyH_take (i := 1) (v := ?_) rfl (by kernel_rfl) (by kernel_rfl) (by kernel_rfl) (fun _ _ _ h => h) (Or.inl ⟨by rfl, ?_⟩) hT ?_
  rotate_left
  · intro w hSw
    go_simp
    try (with_reducible rfl)
  try go_frame
  refine wpAnyH_take (i := 2) (v := ?_) rfl (by kernel_rfl) (by kernel_rfl) (by kernel_rfl) (fun _ _ _ h => h) (Or.inl ⟨by rfl, ?_⟩) hT ?_
  rotate_left
  · intro w hSw
    go_simp
    try (with_reducible rfl)
  try go_frame
  refine wpAnyH_take (i := 3) (v := ?_) rfl (by kernel_rfl) (by kernel_rfl) (by kernel_rfl) (fun _ _ _ h => h) (Or.inl ⟨by rfl, ?_⟩) hT ?_
  rotate_left
  · intro w hSw
    go_simp
    try (with_reducible rfl)
  try go_frame
  refine wpAnyH_take (i := 5) (v := .agg q.cells.toArray) rfl (by kernel_rfl) (by kernel_rfl) (by kernel_rfl) (fun _ _ _ h => h) (yieldsIf_load_mid (by rfl) 44 (.tmp 3) rfl w.heap.size 0 rfl q.cells _ (fun _ h => s6_range h) Tryz.underlying44 rfl size_node) hT ?_
  try go_frame
  have HKc : Hid (Rq B ts w1.drew rb tv (.slice p ln c) o i qs) := HK.out.on (Below.refl _ _).drew
  have HBw : Hid (Below w.heap.size w w1.drew) := HB.out.drew
  have HLc : Hid (w.heap.size < w1.drew.heap.size) := HLq.out
  generalize w1.drew = W2 at *
  clear k0 hS0
  refine wpAnyH_ready (rs := [4, 6]) (by kernel_rfl) (by simp) ?_
  refine AllReadyH.cons rfl (fun K hK => ?_) (AllReadyH.cons rfl (fun K hK => ?_) AllReadyH.nil)
  · have c1 : W2.cell? ⟨rb, 3, none⟩ = some (.slice p ln c) := block_cell HKc.out.blk 3
    go_simp
    refine hK.out _ _ hT (fun hT => ?_)
    clear hK c1
    try go_frame
    refine wpAnyH_ready (rs := [6]) (by kernel_rfl) (by simp) ?_
    refine AllReadyH.cons rfl (fun K hK => ?_) AllReadyH.nil
    refine step_bs (q := q) rfl (.tmp 10) rfl rfl ?_
    have HG3 : Hid ((W2.alloc (.cells ([q].flatMap Nd.cells).toArray 44)).heap[W2.heap.size]? = some (.cells ([q].flatMap Nd.cells).toArray 44)) := alloc_block _ _
    have HBa : Hid (Below W2.heap.size W2 (W2.alloc (.cells ([q].flatMap Nd.cells).toArray 44))) := (Below.refl _ _).alloc (Nat.le_refl _) _
    have hTa : S6 w.heap.size q.cells.toArray (W2.alloc (.cells ([q].flatMap Nd.cells).toArray 44)) := block_on hT HBa.out
    refine hK.out _ _ hTa (fun _ => ?_)
    clear hK hT
    have hT := hTa
    clear hTa
    try go_frame
    replace HKc := hid (HKc.out.on HBa.out)
    replace HBw := hid (HBw.out.trans (HBa.out.mono HBw.out.size))
    replace HLc := hid (Nat.lt_of_lt_of_le HLc.out HBa.out.size)
    clear HBa
    obtain ⟨W3, hW3⟩ : ∃ V, W2.alloc (.cells ([q].flatMap Nd.cells).toArray 44) = V := ⟨_, rfl⟩
    obtain ⟨g3, hg3⟩ : ∃ g, W2.heap.size = g := ⟨_, rfl⟩
    rw [hW3] at HG3 hT HKc HBw HLc
    rw [hg3] at HG3
    change wpAnyH _ _ _ _ _ _ _ _ (W2.alloc (.cells ([q].flatMap Nd.cells).toArray 44))
    rw [hW3, hg3]
    clear hW3 hg3
    refine wpAnyH_ready (rs := [7]) (by kernel_rfl) (by simp) ?_
    refine AllReadyH.cons rfl (fun K hK => ?_) AllReadyH.nil
    refine step_appP (xs := qs) (ys := [q]) (v := .slice p ln c) (u := .slice (some ⟨g3, 0, none⟩) 1 1) elem_node nd_len (fun y hy => by simp at hy; subst hy; exact HQn.out.one) rfl (.tmp 9) (.tmp 11) rfl (by simp [Act.eval]) (by simp [Act.eval]) (B := B) HKc.out.own (Own.sl (Own.blk (e := 44) (B := 0) (xs := [q]) nd_len (Nat.zero_le _) HG3.out (by unfold maxLen; simp)) nd_len) (by simp) (by rw [HLn.out]; simp; omega) (by omega) (Nat.le_trans HK0.out.B_le HBw.out.size) ?_
    intro v' w3 hown hgr hat
    obtain ⟨hc1, hlp, hAt, hKp⟩ := lay_app HK0.out HBw.out hown hgr hat HQn.out (by rw [HLn.out]; exact HLl.out)
    have hT3 : S6 w.heap.size q.cells.toArray w3 := (hgr.block _ HLc.out (fun e1 => by have h1 : w.heap.size < w.heap.size := (HK0.out.own.at e1.symm).2; omega)).trans hT
    obtain ⟨pv, cv, rfl⟩ := hown.form
    have k3 : w3.cell? ⟨rb, 3, none⟩ = some (.slice p ln c) := block_cell hc1 3
    have f3 := block_frozen hc1 3
    have HLP := hid hlp
    have HAt := hid hAt
    have HKp := hid hKp
    have k5 := hlp.cell
    clear hlp hown hgr hat hT hAt hKp
    simp only [List.length_append, List.length_cons, List.length_nil, Nat.zero_add, HLn.out] at HLP HAt HKp k5 ⊢
    refine hK.out _ _ hT3 (fun hT => ?_)
    clear hK
    try go_frame
    refine wpAnyH_take (i := 8) (v := ?_) rfl (by kernel_rfl) (by kernel_rfl) (by kernel_rfl) (fun _ _ _ h => h) (Or.inl ⟨by rfl, ?_⟩) hT ?_
    rotate_left
    · intro w hSw
      go_simp
      try (with_reducible rfl)
    try go_frame
    refine wpAnyH_take (i := 9) (v := ?_) rfl (by kernel_rfl) (by kernel_rfl) (by kernel_rfl) (fun _ _ _ h => h) (Or.inl ⟨by rfl, ?_⟩) hT ?_
    rotate_left
    · intro w hSw
      go_simp
      try (with_reducible rfl)
    try go_frame
    refine wpAnyH_ready (rs := [10]) (by kernel_rfl) (by simp) ?_
    refine AllReadyH.cons rfl (fun K hK => ?_) AllReadyH.nil
    go_simp
    refine hK.out _ _ ((Below.heap_setCell _ _ _ _ HNb.out).trans hT3) (fun _ => ?_)
    refine wpAnyH_done (by kernel_rfl) ?_ _
    clear hK hT hT3 k3 f3
    go_wp2
    go_ret
    exact ⟨by rw [HLn.out]; rfl, _, HLP.out, HAt.out, HKp.out⟩
  · refine step_bs (q := q) rfl (.tmp 10) rfl rfl ?_
    have HG3 : Hid ((W2.alloc (.cells ([q].flatMap Nd.cells).toArray 44)).heap[W2.heap.size]? = some (.cells ([q].flatMap Nd.cells).toArray 44)) := alloc_block _ _
    have HBa : Hid (Below W2.heap.size W2 (W2.alloc (.cells ([q].flatMap Nd.cells).toArray 44))) := (Below.refl _ _).alloc (Nat.le_refl _) _
    have hTa : S6 w.heap.size q.cells.toArray (W2.alloc (.cells ([q].flatMap Nd.cells).toArray 44)) := block_on hT HBa.out
    refine hK.out _ _ hTa (fun _ => ?_)
    clear hK hT
    have hT := hTa
    clear hTa
    try go_frame
    replace HKc := hid (HKc.out.on HBa.out)
    replace HBw := hid (HBw.out.trans (HBa.out.mono HBw.out.size))
    replace HLc := hid (Nat.lt_of_lt_of_le HLc.out HBa.out.size)
    clear HBa
    obtain ⟨W3, hW3⟩ : ∃ V, W2.alloc (.cells ([q].flatMap Nd.cells).toArray 44) = V := ⟨_, rfl⟩
    obtain ⟨g3, hg3⟩ : ∃ g, W2.heap.size = g := ⟨_, rfl⟩
    rw [hW3] at HG3 hT HKc HBw HLc
    rw [hg3] at HG3
    change wpAnyH _ _ _ _ _ _ _ _ (W2.alloc (.cells ([q].flatMap Nd.cells).toArray 44))
    rw [hW3, hg3]
    clear hW3 hg3
    refine wpAnyH_ready (rs := [4]) (by kernel_rfl) (by simp) ?_
    refine AllReadyH.cons rfl (fun K hK => ?_) AllReadyH.nil
    have c1 : W3.cell? ⟨rb, 3, none⟩ = some (.slice p ln c) := block_cell HKc.out.blk 3
    go_simp
    refine hK.out _ _ hT (fun hT => ?_)
    clear hK c1
    try go_frame
    refine wpAnyH_ready (rs := [7]) (by kernel_rfl) (by simp) ?_
    refine AllReadyH.cons rfl (fun K hK => ?_) AllReadyH.nil
    refine step_appP (xs := qs) (ys := [q]) (v := .slice p ln c) (u := .slice (some ⟨g3, 0, none⟩) 1 1) elem_node nd_len (fun y hy => by simp at hy; subst hy; exact HQn.out.one) rfl (.tmp 9) (.tmp 11) rfl (by simp [Act.eval]) (by simp [Act.eval]) (B := B) HKc.out.own (Own.sl (Own.blk (e := 44) (B := 0) (xs := [q]) nd_len (Nat.zero_le _) HG3.out (by unfold maxLen; simp)) nd_len) (by simp) (by rw [HLn.out]; simp; omega) (by omega) (Nat.le_trans HK0.out.B_le HBw.out.size) ?_
    intro v' w3 hown hgr hat
    obtain ⟨hc1, hlp, hAt, hKp⟩ := lay_app HK0.out HBw.out hown hgr hat HQn.out (by rw [HLn.out]; exact HLl.out)
    have hT3 : S6 w.heap.size q.cells.toArray w3 := (hgr.block _ HLc.out (fun e1 => by have h1 : w.heap.size < w.heap.size := (HK0.out.own.at e1.symm).2; omega)).trans hT
    obtain ⟨pv, cv, rfl⟩ := hown.form
    have k3 : w3.cell? ⟨rb, 3, none⟩ = some (.slice p ln c) := block_cell hc1 3
    have f3 := block_frozen hc1 3
    have HLP := hid hlp
    have HAt := hid hAt
    have HKp := hid hKp
    have k5 := hlp.cell
    clear hlp hown hgr hat hT hAt hKp
    simp only [List.length_append, List.length_cons, List.length_nil, Nat.zero_add, HLn.out] at HLP HAt HKp k5 ⊢
    refine hK.out _ _ hT3 (fun hT => ?_)
    clear hK
    try go_frame
    refine wpAnyH_take (i := 8) (v := ?_) rfl (by kernel_rfl) (by kernel_rfl) (by kernel_rfl) (fun _ _ _ h => h) (Or.inl ⟨by rfl, ?_⟩) hT ?_
    rotate_left
    · intro w hSw
      go_simp
      try (with_reducible rfl)
    try go_frame
    refine wpAnyH_take (i := 9) (v := ?_) rfl (by kernel_rfl) (by kernel_rfl) (by kernel_rfl) (fun _ _ _ h => h) (Or.inl ⟨by rfl, ?_⟩) hT ?_
    rotate_left
    · intro w hSw
      go_simp
      try (with_reducible rfl)
    try go_frame
    refine wpAnyH_ready (rs := [10]) (by kernel_rfl) (by simp) ?_
    refine AllReadyH.cons rfl (fun K hK => ?_) AllReadyH.nil
    go_simp
    refine hK.out _ _ ((Below.heap_setCell _ _ _ _ HNb.out).trans hT3) (fun _ => ?_)
    refine wpAnyH_done (by kernel_rfl) ?_ _
    clear hK hT hT3 k3 f3
    go_wp2
    go_ret
    exact ⟨by rw [HLn.out]; rfl, _, HLP.out, HAt.out, HKp.out⟩
def EndP (ts : List Tp) (i : Nat) (qs : List Nd) (w : World) (e : Ending) (w' : World) : Prop :=
  Below w.heap.size w w' ∧ ((i < ts.length ∧ e = dies (faultV i 120)) ∨ (¬ i < ts.length ∧ 128 < qs.length ∧ e = dies (faultV 0 2)) ∨ (¬ i < ts.length ∧ ¬ 128 < qs.length ∧ e = .returned (.tuple #[])))
set_option maxRecDepth 100000 in
set_option maxHeartbeats 1000000 in
theorem end_any (h : Rq B ts w rb tv sv o i qs) : Calls Tryz.prog 107 #[dp rb] w (EndP ts i qs w) := by
  have HQ := hid h
  have k0 := h.cell
  obtain ⟨p, cap, rfl, hc1, hc2⟩ := h.tok.form
  obtain ⟨p2, c2, rfl⟩ := h.own.form
  unfold maxLen at hc2
  clear h
  generalize hln : ts.length = ln at *
  have HLn := hid hln
  generalize hqn : qs.length = qn at *
  have HQn := hid hqn
  clear hln hqn
  have hrl := HQ.out.lt
  by_cases hi : i < ln
  · have iI : (i : Int) < ln := by omega
    have HI := hid hi
    have iB : decide (i < ln) = true := by simp; omega
    clear hi
    go_enter Tryz.func107, Tryz.ntmps107
    go_upto_region 0 with fail
    go_quiet (fail)
    go_wp2_with (go_at_call 145; refine (fail_any (HQ.out.on (below_drewN (Below.refl _ _) _)) 120).mono ?_; rintro e w2 ⟨rfl, he⟩; replace he := he.symm; subst he)
    exact ⟨rfl, below_drewN (Below.refl _ _) _, .inl ⟨by rw [HLn.out]; exact HI.out, rfl⟩⟩
  · have iI : ¬ (i : Int) < ln := by omega
    have HI := hid hi
    have iB : decide (i < ln) = false := by simp; omega
    clear hi
    by_cases hq : 128 < qn
    · have qI : 128 < (qn : Int) := by omega
      have HJ := hid hq
      clear hq
      go_enter Tryz.func107, Tryz.ntmps107
      go_upto_region 0 with fail
      go_quiet (fail)
      go_wp2_with fail
      exact ⟨rfl, below_drewN (Below.refl _ _) _, .inr (.inl ⟨by rw [HLn.out]; exact HI.out, by rw [HQn.out]; exact HJ.out, rfl⟩)⟩
    · have qI : ¬ 128 < (qn : Int) := by omega
      have HJ := hid hq
      clear hq
      go_enter Tryz.func107, Tryz.ntmps107
      go_upto_region 0 with fail
      go_quiet (fail)
      go_wp2_with fail
      go_end0
      exact ⟨below_drewN (Below.refl _ _) _, .inr (.inr ⟨by rw [HLn.out]; exact HI.out, by rw [HQn.out]; exact HJ.out, rfl⟩)⟩
abbrev zNd : Array Value := #[.int .i64 0, .string ⟨#[]⟩, .int .i64 0, .int .i64 0, .int .i64 0, .int .i64 0, .int .i64 0, .string ⟨#[]⟩, .int .i64 0, .int .i64 0, .int .i64 0, .int .i64 0, .int .i64 0, .int .i64 0, .int .i64 0, .int .i64 0, .slice none 0 0, .slice none 0 0, .slice none 0 0]
def vNd (B : Nat) (w : World) (x : Np) (v : Value) : Prop := ∃ q : Nd, q.np = x ∧ v = .agg q.cells.toArray ∧ NdIn B w q
theorem store_nd {ops : Array Oper} {rest : List Oper} {op : Oper} {a : Act} {w : World} {Q : Exit → Act → World → Prop} (hgd : op.guard = none) (x y : Operand) (ho : op.op = .store 44 x y) {g : Nat} {q : Nd} (hx : a.eval x = dp g) (hy : a.eval y = .agg q.cells.toArray) (h1 : q.cells.toArray.all (·.oneCell') = true) {old : Array Value} (hg : w.heap[g]? = some (.cells old 44 (0, 0))) (hs : old.size = 19)
    (h : ∀ w', w'.heap[g]? = some (.cells q.cells.toArray 44 (0, 0)) → Kp (fun k => k = g) w w' → wpList Tryz.prog ops Q rest (a.put op.dst undef) w') : wpList Tryz.prog ops Q (op :: rest) a w :=
  wpList_store_row hgd 44 x y ho hx hy hg size_node (by rw [hs]; rfl) h1 (fun w' h1 h2 _ => h w' h1 h2)
theorem load_nd {ops : Array Oper} {rest : List Oper} {op : Oper} {a : Act} {w : World} {Q : Exit → Act → World → Prop} (hgd : op.guard = none) (x : Operand) (ho : op.op = .load 44 x) {g : Nat} {q : Nd} (hx : a.eval x = dp g) (hg : w.heap[g]? = some (.cells q.cells.toArray 44 (0, 0)))
    (h : wpList Tryz.prog ops Q rest (a.put op.dst (.agg q.cells.toArray)) w) : wpList Tryz.prog ops Q (op :: rest) a w :=
  wpList_load_mid hgd 44 x ho g 0 hx q.cells _ (s6_range hg) Tryz.underlying44 rfl size_node h
/- A node without rows. -/
abbrev bare (n : Np) : Nd := ⟨n, .slice none 0 0, .slice none 0 0, .slice none 0 0⟩
theorem bare_in (B : Nat) (w : World) {n : Np} (h1 : n.l = []) (h2 : n.names = []) (h3 : n.aggs = []) : NdIn B w (bare n) := by
  refine ⟨?_, ?_, ?_⟩
  · show Own _ _ _ _ _ _ n.l; rw [h1]; exact Own.nil _ _ _ _ _
  · show Own _ _ _ _ _ _ n.names; rw [h2]; exact Own.nil _ _ _ _ _
  · show Own _ _ _ _ _ _ n.aggs; rw [h3]; exact Own.nil _ _ _ _ _
theorem bare_all (n : Np) : (bare n).cells.toArray.all (·.oneCell') = true := by simp [Nd.cells, Value.oneCell']
set_option maxRecDepth 100000 in
set_option maxHeartbeats 2000000 in
theorem test_any (h : Rq B ts w rb tv sv o i qs) : Calls Tryz.prog 251 #[dp rb] w (P1 B ts rb tv sv o qs w (vNd B) (testS ts i)) := by
  have HB0 : Hid (Below w.heap.size w (w.alloc (.cells zNd 44))) := (Below.refl _ _).alloc (Nat.le_refl _) _
  have HZ := hid (alloc_block w (.cells zNd 44))
  have HQ0 := hid (h.on HB0.out)
  have HR0 := hid h
  have hrl := h.lt
  generalize hW : w.alloc (.cells zNd 44) = w1 at *
  have HW := hid hW
  clear h hW
  go_enter Tryz.func251, Tryz.ntmps251
  go_upto_region 1 with fail
  rw [HW.out]
  go_wp2_with (first
    | (go_at_call 147; refine (name_any HQ0.out).mono ?_; rintro e w2 ⟨hk, ⟨j, c, hr, rfl⟩ | ⟨s, j, v, hr, rfl, rfl, hq⟩⟩; (focus (go_wp2_with fail; exact ⟨rfl, P1.bad ((Kp.of HB0.out).trans hk) (by simp [testS, hr, Rs.and])⟩)); have HK2 := hid ((Kp.of HB0.out).trans hk); have HQ2 := hid hq; have HR2 := hid hr; have HZ2 := hid (hk.blk HZ.out (fun e => by omega)); clear hk hq hr)
    | (go_at_call 110; refine (skip_any HQ2.out wHas).mono ?_; rintro e w3 ⟨rfl, hq, hk⟩; have HK3 := hid (HK2.out.trans hk); have HZ3 := hid (hk.blk HZ2.out (fun e => by omega)); have HQ3 := hid hq; clear hq hk;
        cases hw : isW ts j wHas with
        | true =>
          rw [hw] at HQ3
          have C := hid hw
          clear hw
          go_wp2_with (first
            | (go_at_call 252; refine (txt_any HQ3.out).mono ?_; rintro e w4 ⟨hk, ⟨j2, c, hr, rfl⟩ | ⟨x, j2, v, hr, rfl, rfl, hq⟩⟩; (focus (go_wp2_with fail; exact ⟨rfl, P1.bad (HK3.out.trans hk) (by simp only [if_true] at hr; simp [testS, HR2.out, C.out, hr, Rs.and])⟩)); have HK4 := hid (HK3.out.trans hk); have HQ4 := hid hq; have HR4 := hid hr; have HZ4 := hid (hk.blk HZ3.out (fun e => by omega)); clear hk hq hr)
            | (refine store_nd (q := bare { n0 with kind := 15, s := s, vk := x.1, vn := x.2.1, vs := x.2.2 }) rfl _ _ rfl rfl rfl (bare_all _) HZ4.out rfl ?_; intro w5 h5 k5; have H5 := hid h5; have K5 := hid k5; clear h5 k5))
          obtain ⟨a, b⟩ := val_back HR0.out HQ4.out HK4.out K5.out
          exact ret_nd rfl rfl H5.out rfl rfl ⟨b, .inr ⟨_, j2, _, by have hr := HR4.out; simp only [if_true] at hr; simp [testS, HR2.out, C.out, hr, Rs.and], rfl, ⟨_, rfl, rfl, bare_in _ _ rfl rfl rfl⟩, a⟩⟩
        | false =>
          rw [hw] at HQ3
          have C := hid hw
          clear hw
          go_wp2_with (first
            | (go_at_call 253; refine (how_any HQ3.out).mono ?_; rintro e w4 ⟨hk, ⟨j2, c, hr, rfl⟩ | ⟨x, j2, v, hr, rfl, rfl, hq⟩⟩; (focus (go_wp2_with fail; exact ⟨rfl, P1.bad (HK3.out.trans hk) (how_bad HR2.out C.out hr)⟩)); have HK4 := hid (HK3.out.trans hk); have HQ4 := hid hq; have HR4 := hid hr; have HZ4 := hid (hk.blk HZ3.out (fun e => by omega)); clear hk hq hr)
            | (go_at_call 254; refine (value_any HQ4.out).mono ?_; rintro e w5 ⟨hk, ⟨j3, c, hr, rfl⟩ | ⟨y, j3, v, hr, rfl, rfl, hq⟩⟩; (focus (go_wp2_with fail; exact ⟨rfl, P1.bad (HK4.out.trans hk) (value_bad HR2.out C.out HR4.out hr)⟩)); have HK5 := hid (HK4.out.trans hk); have HQ5 := hid hq; have HR5 := hid hr; have HZ5 := hid (hk.blk HZ4.out (fun e => by omega)); clear hk hq hr)
            | (refine store_nd (q := bare { n0 with kind := 14, s := s, n := x, vk := y.1, vn := y.2.1, vs := y.2.2 }) rfl _ _ rfl rfl rfl (bare_all _) HZ5.out rfl ?_; intro w6 h6 k6; have H6 := hid h6; have K6 := hid k6; clear h6 k6))
          obtain ⟨a, b⟩ := val_back HR0.out HQ5.out HK5.out K6.out
          exact ret_nd rfl rfl H6.out rfl rfl ⟨b, .inr ⟨_, j3, _, value_ok HR2.out C.out HR4.out HR5.out, rfl, ⟨_, rfl, rfl, bare_in _ _ rfl rfl rfl⟩, a⟩⟩))
end
end Go.Proofs.YtmpjmimhoikknaaGreatDoor
