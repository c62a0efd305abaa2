/-
  The reference's reader takes aggregates.
  The reference's reader takes a query: mathematics.
  The reference's reader takes a query.
  The reference's reader takes a step: what is kept, and mathematics.
-/
import Derived.Test.YtmpjmimhoikknaaGreatDoorK33
import Derived.Deep.RegionLaw
namespace Go.Proofs.YtmpjmimhoikknaaGreatDoor
open Go.RowKit Go.Joins

section
variable {B : Nat} {ts : List Tp} {w w' : World} {rb : Nat} {tv sv : Value} {E : Int} {o i : Nat} {qs : List Nd}
theorem ris_is (h : Ry B ts w rb tv sv E o i qs) {x : List UInt8} {b : Bool} (hx : isE E ts i x = b) : Calls Tryz.prog 119 #[dp rb, .string (St x)] w fun e w' => e = .returned (.bool b) ∧ Below w.heap.size w w' := by
  rw [← hx]; exact ris_any h x
theorem take_gt {k : Int} {t : Tp} {j2 : Nat} {E2 : Int} {j : Nat} (h : Cm (lf 0 (j + 1) (takeS ts k (j + 1))) t j2 E2) : j < j2 := by have := take_lf h; omega
set_option maxRecDepth 100000 in
set_option maxHeartbeats 2000000 in
theorem raggs_any (h : Ry B ts w rb tv sv E o i qs) : Calls Tryz.prog 158 #[dp rb] w (Y1 B ts rb tv sv o qs w (vlista w.heap.size) (lf E i (listS ts (aggS ts) i))) := by
  have htl := h.tl
  have hf1 := fld1
  have HA0 : Hid (Ag B ts w rb tv sv E o i qs w.heap.size (.slice none 0 0) [] (w.alloc (.cells agC 9))) := ⟨h.on ((Below.refl _ _).alloc (Nat.le_refl _) _), Own.nil _ _ _ _ _, Kp.alloc _ _ _, alloc_block _ _, Nat.le_refl _, h.lt⟩
  have HR0 := hid h
  clear h
  go_enter Tryz.func158, Tryz.ntmps158
  go_upto_region 3 with fail
  generalize w.alloc (.cells agC 9) = W0 at *
  go_loopw [4] (fun u wr => ∃ (f j : Nat) (acc : List (Int × List UInt8)) (Ej : Int), Hid (InvA ts E i f acc Ej j) ∧ Hid (ts.length ≤ f + j ∧ acc.length ≤ j) ∧ Hid (Ag B ts w rb tv sv Ej o j qs w.heap.size u acc wr)) (fun _ wr => ts.length + 1 - atOf rb wr)
  case atStart => exact ⟨ts.length, i, [], E, inva_start, ⟨by omega, by simp⟩, HA0.out⟩
  case round =>
    obtain ⟨f, j, acc, Ej, HI, HF, HAr⟩ := hrel
    clear HA0
    obtain ⟨pu, cu, rfl⟩ := HAr.out.ow.form
    go_upto_region 4 with fail
    go_loopw [5] (fun u5 wr2 => ∃ k : Nat, u5 = .int .i64 k ∧ (1 : Int) ≤ k ∧ (k : Int) ≤ 7 ∧ Hid (∀ m, m < k - 1 → isE Ej ts j (aggW.getD m []) = false) ∧ Hid (Ag B ts w rb tv sv Ej o j qs w.heap.size (.slice pu acc.length cu) acc wr2)) (fun u _ => 7 - (intOf u).toNat)
    case atStart => exact ⟨1, rfl, by omega, by omega, fun m hm => by omega, HAr.out⟩
    case round =>
      obtain ⟨k, rfl, hk1, hk7, HNo, HA2⟩ := hrel
      by_cases h7 : k < 7
      · have kI : (k : Int) < 7 := by omega
        have k0 : (0 : Int) ≤ k := by omega
        have cS := (block_cell HA2.out.b k).trans (agC_at k (by omega) h7)
        have H7 := hid h7
        cases hs : isE Ej ts j (aggW.getD (k - 1) []) with
        | false =>
          have HSs := hid hs
          clear hs h7
          go_wp2_with (go_at_call 119; refine (ris_is HA2.out.r HSs.out).mono ?_; rintro e w3 ⟨rfl, hb⟩; have HA3 := hid (HA2.out.on hb); clear hb)
          go_roundw
          case rel => exact ⟨k + 1, by simp, by omega, by omega, fun m hm => by
            rcases Nat.lt_or_ge m (k - 1) with h | h
            · exact HNo.out m h
            · rw [show m = k - 1 by omega]; exact HSs.out, HA3.out⟩
          case measure => simp [intOf]; have := H7.out; omega
        | true =>
          have HSs := hid hs
          have hE := isE_E hs
          subst hE
          have HLt := hid (isE_lt hs)
          have jI : (j : Int) ≤ 1024 := by have := isE_lt hs; omega
          have j0 : (0 : Int) ≤ j := by omega
          have HAg := hid (agg_at (by omega) h7 HNo.out (isE_W hs))
          have nk7 : ((k : Int) == 7) = false := by simp; omega
          clear hs h7
          by_cases hk : k = 1
          · subst hk
            go_upto_region 13 with (go_at_call 119; refine (ris_is HA2.out.r HSs.out).mono ?_; rintro e w3 ⟨rfl, hb⟩; have HA3 := hid (HA2.out.on hb); have k3 := HA3.out.r.cell; have z3 := HA3.out.r.frozen; clear hb)
            have HA4 := hid (HA3.out.y1 (Kp.set (T := fun k => k = rb) rfl (.int .i64 ((j : Int) + 1))) (HA3.out.r.next HLt.out))
            have HSz : Hid ((w3.setCell ⟨rb, 1, none⟩ (.int .i64 ((j : Int) + 1))).heap.size = w3.heap.size) := by show _ = _; simp
            clear k3 z3
            generalize w3.setCell ⟨rb, 1, none⟩ (.int .i64 ((j : Int) + 1)) = W4 at *
            have HA5 := hid (HA4.out.on ((Below.refl _ _).alloc (Nat.le_refl _) (.cells #[.int .i64 1, .string ⟨#[]⟩] 61)))
            have HX5 := hid (alloc_block W4 (.cells #[.int .i64 1, .string ⟨#[]⟩] 61))
            rw [HSz.out] at HX5
            have c5 := block_cell HX5.out
            generalize W4.alloc (.cells #[.int .i64 1, .string ⟨#[]⟩] 61) = W5 at *
            have hcm : Cm (aggS ts j) ((1, []) : Int × List UInt8) (j + 1) 0 := .inr ⟨by have := HAg.out; simpa using this, rfl⟩
            have HCm := hid hcm
            clear hcm
            cases hw : isE 0 ts (j + 1) wComma with
            | true =>
              have HWw := hid hw
              obtain ⟨f', hf', hi'⟩ := inva_next HI.out HCm.out hw HF.out.1 (by omega)
              have HI' := hid hi'
              have HF' := hid hf'
              clear hw hi' hf'
              go_wp2_with (first
                | (at_builtin; refine app_N (ys := [((1, []) : Int × List UInt8)]) elem_agg (fun _ => rfl) (by intro y _ c hc; simp at hc; rcases hc with rfl | rfl <;> rfl) rfl _ _ rfl rfl (HA5.out.ow.on ((Below.refl _ _).alloc (Nat.le_refl _) (.cells #[.int .i64 ((1, []) : Int × List UInt8).1, .string (St ((1, []) : Int × List UInt8).2)] 61))) rfl (Own.sl (lista_one W5 ((1, []) : Int × List UInt8)) (fun _ => rfl)) (by simp) (by have := HF.out; have := HLt.out; simp; omega) (by decide) (Nat.le_trans HA5.out.k.size (by simp)) ?_; intro v7 w7 ho hg; have HA7 := hid (HA5.out.app HR0.out ((Below.refl _ _).alloc (Nat.le_refl _) _) hg ho); clear ho hg)
                | (go_at_call 82; refine (rsees_yes HA7.out.r (x := wComma) HWw.out).mono ?_; rintro e w8 ⟨rfl, hq, hk⟩; have HA8 := hid (HA7.out.y1 hk hq); clear hq hk))
              go_roundw
              case rel => exact ⟨f', (j + 1) + 1, acc ++ [((1, []) : Int × List UInt8)], 0, HI'.out, ⟨by have := HF'.out; have := HF.out; omega, by have := HF.out; simp; omega⟩, by have := HA8.out; rw [isE_E HWw.out] at this; exact this⟩
              case measure => rw [HA8.out.r.atOf, HAr.out.r.atOf]; have := HLt.out; omega
            | false =>
              have HWw := hid hw
              clear hw
              go_wp2_with (first
                | (at_builtin; refine app_N (ys := [((1, []) : Int × List UInt8)]) elem_agg (fun _ => rfl) (by intro y _ c hc; simp at hc; rcases hc with rfl | rfl <;> rfl) rfl _ _ rfl rfl (HA5.out.ow.on ((Below.refl _ _).alloc (Nat.le_refl _) (.cells #[.int .i64 ((1, []) : Int × List UInt8).1, .string (St ((1, []) : Int × List UInt8).2)] 61))) rfl (Own.sl (lista_one W5 ((1, []) : Int × List UInt8)) (fun _ => rfl)) (by simp) (by have := HF.out; have := HLt.out; simp; omega) (by decide) (Nat.le_trans HA5.out.k.size (by simp)) ?_; intro v7 w7 ho hg; have HA7 := hid (HA5.out.app HR0.out ((Below.refl _ _).alloc (Nat.le_refl _) _) hg ho); clear ho hg)
                | (go_at_call 82; refine (rsees_no HA7.out.r (x := wComma) HWw.out).mono ?_; rintro e w8 ⟨rfl, hq, hk⟩; have HA8 := hid (HA7.out.y1 hk hq); clear hq hk))
              obtain ⟨pv, cv, hv⟩ := HA7.out.ow.form
              subst hv
              go_ret
              exact ⟨HA8.out.k, acc ++ [((1, []) : Int × List UInt8)], _, _, (j + 1), rfl, HA8.out.ow, HA8.out.r, inva_end HI.out HCm.out HWw.out⟩
          · have gk : decide ((1 : Int) < k) = true := by simp; omega
            have gkI : (1 : Int) < k := by omega
            have HK1 := hid hk
            clear hk
            go_upto_region 12 with (go_at_call 119; refine (ris_is HA2.out.r HSs.out).mono ?_; rintro e w3 ⟨rfl, hb⟩; have HA3 := hid (HA2.out.on hb); have k3 := HA3.out.r.cell; have z3 := HA3.out.r.frozen; clear hb)
            have HA4 := hid (HA3.out.y1 (Kp.set (T := fun k => k = rb) rfl (.int .i64 ((j : Int) + 1))) (HA3.out.r.next HLt.out))
            have HSz : Hid ((w3.setCell ⟨rb, 1, none⟩ (.int .i64 ((j : Int) + 1))).heap.size = w3.heap.size) := by show _ = _; simp
            clear k3 z3
            generalize w3.setCell ⟨rb, 1, none⟩ (.int .i64 ((j : Int) + 1)) = W4 at *
            go_upto_region 13 with (go_at_call 116; refine (rkind_any (HA4.out.on ((Below.refl _ _).alloc (Nat.le_refl _) (.cells #[.int .i64 k, .string ⟨#[]⟩] 61))).r 1).mono ?_; rintro e w6 ⟨hk, t6, v6, E6, j6, rfl, hv6, hq, hc⟩; obtain rfl := hv6; have HX6 := hid (hk.blk (alloc_block W4 (.cells #[.int .i64 k, .string ⟨#[]⟩] 61)) (fun e => by have := HA4.out.r.lt; omega)); have HA6 := hid ((HA4.out.on ((Below.refl _ _).alloc (Nat.le_refl _) (.cells #[.int .i64 k, .string ⟨#[]⟩] 61))).y1 hk hq); have HC6 := hid hc; rw [HSz.out] at HX6; have c6 := block_cell HX6.out 1; have z6 := block_frozen HX6.out 1; clear hk hq hc)
            have HA5 := hid (HA6.out.box (ab := w3.heap.size) (c := 1) (v := .string (St t6.s)) HR0.out (by have := HA3.out.k.size; omega) (by rw [← HSz.out]; exact HA4.out.own_lt) (fun e => by have := lt_of_block HA3.out.b; omega))
            have c5 := block_cell (block_set HX6.out 1 (.string (St t6.s)))
            clear c6 z6
            generalize w6.setCell ⟨w3.heap.size, 1, none⟩ (.string (St t6.s)) = W5 at *
            have hcm : Cm (aggS ts j) (((k : Int), t6.s) : Int × List UInt8) j6 E6 := by have h1 := HAg.out; rw [if_neg (by have := HK1.out; omega)] at h1; rw [h1]; have h2 := HC6.out; unfold lf at h2; rw [if_pos rfl] at h2; exact (show Cm (lf 0 (j + 1) (nameS ts (j + 1))) t6.s j6 E6 from HC6.out.map (g := fun t : Tp => t.s)).and ok_lf
            have HCm := hid hcm
            clear hcm
            cases hw : isE E6 ts j6 wComma with
            | true =>
              have HWw := hid hw
              obtain ⟨f', hf', hi'⟩ := inva_next HI.out HCm.out hw HF.out.1 (take_gt HC6.out)
              have HI' := hid hi'
              have HF' := hid hf'
              clear hw hi' hf'
              go_wp2_with (first
                | (at_builtin; refine app_N (ys := [(((k : Int), t6.s) : Int × List UInt8)]) elem_agg (fun _ => rfl) (by intro y _ c hc; simp at hc; rcases hc with rfl | rfl <;> rfl) rfl _ _ rfl rfl (HA5.out.ow.on ((Below.refl _ _).alloc (Nat.le_refl _) (.cells #[.int .i64 (((k : Int), t6.s) : Int × List UInt8).1, .string (St (((k : Int), t6.s) : Int × List UInt8).2)] 61))) rfl (Own.sl (lista_one _ (((k : Int), t6.s) : Int × List UInt8)) (fun _ => rfl)) (by simp) (by have := HF.out; have := HLt.out; simp; omega) (by decide) (Nat.le_trans HA5.out.k.size (by simp)) ?_; intro v7 w7 ho hg; have HA7 := hid (HA5.out.app HR0.out ((Below.refl _ _).alloc (Nat.le_refl _) _) hg ho); clear ho hg)
                | (go_at_call 82; refine (rsees_yes HA7.out.r (x := wComma) HWw.out).mono ?_; rintro e w8 ⟨rfl, hq, hk⟩; have HA8 := hid (HA7.out.y1 hk hq); clear hq hk))
              go_roundw
              case rel => exact ⟨f', j6 + 1, acc ++ [(((k : Int), t6.s) : Int × List UInt8)], 0, HI'.out, ⟨by have := HF'.out; have := HF.out; have := take_gt HC6.out; omega, by have := HF.out; have := take_gt HC6.out; simp; omega⟩, by have := HA8.out; rw [isE_E HWw.out] at this; exact this⟩
              case measure => rw [HA8.out.r.atOf, HAr.out.r.atOf]; have := HLt.out; have := take_gt HC6.out; omega
            | false =>
              have HWw := hid hw
              clear hw
              go_wp2_with (first
                | (at_builtin; refine app_N (ys := [(((k : Int), t6.s) : Int × List UInt8)]) elem_agg (fun _ => rfl) (by intro y _ c hc; simp at hc; rcases hc with rfl | rfl <;> rfl) rfl _ _ rfl rfl (HA5.out.ow.on ((Below.refl _ _).alloc (Nat.le_refl _) (.cells #[.int .i64 (((k : Int), t6.s) : Int × List UInt8).1, .string (St (((k : Int), t6.s) : Int × List UInt8).2)] 61))) rfl (Own.sl (lista_one _ (((k : Int), t6.s) : Int × List UInt8)) (fun _ => rfl)) (by simp) (by have := HF.out; have := HLt.out; simp; omega) (by decide) (Nat.le_trans HA5.out.k.size (by simp)) ?_; intro v7 w7 ho hg; have HA7 := hid (HA5.out.app HR0.out ((Below.refl _ _).alloc (Nat.le_refl _) _) hg ho); clear ho hg)
                | (go_at_call 82; refine (rsees_no HA7.out.r (x := wComma) HWw.out).mono ?_; rintro e w8 ⟨rfl, hq, hk⟩; have HA8 := hid (HA7.out.y1 hk hq); clear hq hk))
              obtain ⟨pv, cv, hv⟩ := HA7.out.ow.form
              subst hv
              go_ret
              exact ⟨HA8.out.k, acc ++ [(((k : Int), t6.s) : Int × List UInt8)], _, _, j6, rfl, HA8.out.ow, HA8.out.r, inva_end HI.out HCm.out HWw.out⟩
      · obtain rfl : k = 7 := by omega
        clear h7 hk1 hk7
        go_wp2_with (go_at_call 84; refine (rfail_any HA2.out.r).mono ?_; rintro e w6 ⟨rfl, hq, hk⟩; have HA6 := hid (HA2.out.y1 hk hq); clear hq hk)
        go_ret
        exact ⟨HA6.out.k, acc, _, _, j, rfl, HA6.out.ow, HA6.out.r, inva_none HI.out HNo.out acc⟩
end
end Go.Proofs.YtmpjmimhoikknaaGreatDoor
namespace Go.Proofs.YtmpjmimhoikknaaGreatDoor
open Go.RowKit Go.Joins

theorem and_assoc' {α β γ : Type} (r : Rs α) (f : α → Nat → Rs β) (g : β → Nat → Rs γ) : (r.and f).and g = r.and fun x j => (f x j).and g := by cases r <;> rfl
theorem Cm.nm {ts : List Tp} {t : Tp} {i j : Nat} {E E' : Int} (h : Cm (lf E i (takeS ts 1 i)) t j E') : Cm (lf E i (nameS ts i)) t.s j E' := h.map (g := fun t : Tp => t.s)
theorem Cm.nu {ts : List Tp} {t : Tp} {i j : Nat} {E E' : Int} (h : Cm (lf E i (takeS ts 2 i)) t j E') : Cm (lf E i (numS' ts i)) t.n j E' := h.map (g := fun t : Tp => t.n)
/- A step, with the node that it lays. -/
abbrev stepK (r : Np × List Np) (j : Nat) : Rs (Nat × List Np) := .ok (r.2.length, r.2 ++ [r.1]) j
section
variable {ts : List Tp} {i j j1 j2 j3 j4 j5 : Nat} {E E1 E2 E3 E4 E5 : Int} {t2 t3 t5 : Tp}
theorem fetch_cm0 (h1 : Cm (lf E i (wantS ts wFetch i)) () j1 E1) (h2 : Cm (lf E1 j1 (takeS ts 1 j1)) t2 j2 E2) (hf : isE E2 ts j2 wFrom = false) : Cm (lf E i (fetchS ts i)) { n0 with kind := 1, s := t2.s, to_ := 1099511627775 } j2 E2 := by
  refine h1.lfand (h2.nm.lfand ?_)
  by_cases hE : E2 = 0
  · subst hE
    rw [isE_false hf rfl, if_neg (by decide)]; exact ok_lf
  · exact lf_bad hE
theorem fetch_cm1 (h1 : Cm (lf E i (wantS ts wFetch i)) () j1 E1) (h2 : Cm (lf E1 j1 (takeS ts 1 j1)) t2 j2 E2) (hf : isE E2 ts j2 wFrom = true) (h3 : Cm (lf E2 (j2 + 1) (takeS ts 2 (j2 + 1))) t3 j3 E3) (h4 : Cm (lf E3 j3 (wantS ts wTo j3)) () j4 E4) (h5 : Cm (lf E4 j4 (takeS ts 2 j4)) t5 j5 E5) : Cm (lf E i (fetchS ts i)) { n0 with kind := 1, s := t2.s, from_ := t3.n, to_ := t5.n } j5 E5 := by
  refine h1.lfand (h2.nm.lfand ?_)
  have hE := isE_E hf
  subst hE
  rw [isE_W hf, if_pos rfl]
  have h : Cm (lf 0 (j2 + 1) ((numS' ts (j2 + 1)).and fun a j => (wantS ts wTo j).and fun _ j => (numS' ts j).and fun b j => .ok { n0 with kind := 1, s := t2.s, from_ := a, to_ := b } j)) { n0 with kind := 1, s := t2.s, from_ := t3.n, to_ := t5.n } j5 E5 := h3.nu.lfand (h4.lfand (h5.nu.lfand ok_lf))
  exact h
theorem fetch_len {n : Np} (h : Cm (lf E i (fetchS ts i)) n j E1) (hE : E1 = 0) : E = 0 ∧ fetchS ts i = .ok n j ∧ i + 1 ≤ j := by
  rcases h with ⟨-, h⟩ | ⟨h, -⟩
  · exact absurd hE h
  · unfold lf at h
    split at h
    · rename_i hE0
      exact ⟨hE0, h, (fetch_go ts _ _ _ h).1⟩
    · cases h
/- The loop over the steps. -/
def InvQ (ts : List Tp) (st : Nat → Nat → List Np → Rs (Np × List Np)) (T : Rs (Nat × List Np)) (f : Nat) (z : Int) (j : Nat) (ns : List Np) (E : Int) : Prop :=
  (¬ E = 0 ∧ T = .bad j E) ∨ (E = 0 ∧ ∃ a : Nat, z = a ∧ T = stepsL ts st f a j ns ∧ ts.length ≤ f + j)
theorem invq_start {c : PN} {d : Option PN} {ns ns5 : List Np} {n : Np} {z : Int} (hf : Cm (lf E i (fetchS ts i)) n j E1) (h : Cm2 (lf E1 j (.ok (ns.length, ns ++ [n]) j)) z ns5 j5 E5) : InvQ ts (stepB ts c d) (lf E i (queryB ts c d i ns)) ts.length z j5 ns5 E5 := by
  by_cases hE : E1 = 0
  · obtain ⟨rfl, h2, h3⟩ := fetch_len hf hE
    subst hE
    unfold lf at h; rw [if_pos rfl] at h
    rcases h with ⟨h, -⟩ | ⟨a, rfl, h, rfl⟩
    · cases h
    · cases h
      refine .inr ⟨rfl, _, rfl, ?_, by omega⟩
      unfold lf queryB; rw [if_pos rfl, h2]; rfl
  · unfold lf at h; rw [if_neg hE] at h
    rcases h with ⟨h, h5⟩ | ⟨a, -, h, -⟩
    · cases h
      refine .inl ⟨h5, ?_⟩
      rcases hf with ⟨hf, -⟩ | ⟨-, hf⟩
      · unfold queryB; exact lf_bad_and hf
      · exact absurd hf hE
    · cases h
theorem invq_more {st : Nat → Nat → List Np → Rs (Np × List Np)} {T : Rs (Nat × List Np)} {f : Nat} {z : Int} {ns : List Np} (h : InvQ ts st T f z j ns 0) (hw : isW ts j wBar = true) : ∃ f' a : Nat, z = a ∧ ts.length ≤ f' + 1 + j ∧ T = (st a (j + 1) ns).and fun r j => stepsL ts st f' r.2.length j (r.2 ++ [r.1]) := by
  rcases h with ⟨h, -⟩ | ⟨-, a, rfl, h, hf⟩
  · exact absurd rfl h
  · have := isW_lt hw
    obtain ⟨f', rfl⟩ : ∃ f', f = f' + 1 := ⟨f - 1, by omega⟩
    exact ⟨f', a, rfl, hf, by rw [h, stepsL, if_pos hw]⟩
theorem invq_end {st : Nat → Nat → List Np → Rs (Np × List Np)} {T : Rs (Nat × List Np)} {f : Nat} {z : Int} {ns : List Np} (h : InvQ ts st T f z j ns E) (hw : isE E ts j wBar = false) : Cm2 T z ns j E := by
  rcases h with ⟨h, h2⟩ | ⟨rfl, a, rfl, h, hf⟩
  · exact .inl ⟨h2, h⟩
  · refine .inr ⟨a, rfl, ?_, rfl⟩
    rw [h]
    cases f with
    | zero => rfl
    | succ f => rw [stepsL, isE_false hw rfl, if_neg (by decide)]
theorem invq_next {c : PN} {d : Option PN} {T : Rs (Nat × List Np)} {f' a : Nat} {z4 : Int} {ns ns4 : List Np} (hc : GoN ts c) (hd : ∀ p, d = some p → GoN ts p) (hf : ts.length ≤ f' + 1 + j) (hT : T = (stepB ts c d a (j + 1) ns).and fun r j => stepsL ts (stepB ts c d) f' r.2.length j (r.2 ++ [r.1])) (h : Cm2 ((stepB ts c d a (j + 1) ns).and stepK) z4 ns4 j4 E4) : InvQ ts (stepB ts c d) T f' z4 j4 ns4 E4 ∧ (E4 = 0 → j + 1 < j4) := by
  cases hs : stepB ts c d a (j + 1) ns with
  | bad k e =>
    rw [hs] at h hT
    rcases h with ⟨h, h5⟩ | ⟨a, -, h, -⟩
    · cases h
      exact ⟨.inl ⟨h5, hT⟩, fun e => absurd e h5⟩
    · cases h
  | ok r k =>
    rw [hs] at h hT
    have hg := stepB_go hc hd _ _ _ _ _ hs
    rcases h with ⟨h, -⟩ | ⟨b, rfl, h, rfl⟩
    · cases h
    · cases h
      exact ⟨.inr ⟨rfl, _, rfl, hT, by omega⟩, fun _ => by omega⟩
end
end Go.Proofs.YtmpjmimhoikknaaGreatDoor
namespace Go.Proofs.YtmpjmimhoikknaaGreatDoor
open Go.RowKit Go.Joins

section
variable {B : Nat} {ts : List Tp} {w w' : World} {rb : Nat} {tv sv : Value} {E : Int} {o i : Nat} {qs : List Nd}
/- What a step does, at a depth. -/
def StepY (B : Nat) (ts : List Tp) (rb : Nat) (tv : Value) (o : Nat) (c : PN) (d : Option PN) : Prop := ∀ (w : World) (sv : Value) (i : Nat) (qs : List Nd) (rows : Nat), rows < 2000 → Ry B ts w rb tv sv 0 o i qs → Calls Tryz.prog 117 #[dp rb, .int .i64 (rows : Int)] w (Y2 B ts rb tv sv o w ((stepB ts c d rows i (qs.map (·.np))).and stepK))
set_option maxRecDepth 100000 in
set_option maxHeartbeats 4000000 in
theorem rquery_any {c : PN} {d : Option PN} (hs : E = 0 → StepY B ts rb tv o c d) (hc : GoN ts c) (hd : ∀ p, d = some p → GoN ts p) (h : Ry B ts w rb tv sv E o i qs) : Calls Tryz.prog 74 #[dp rb] w (Y2 B ts rb tv sv o w (lf E i (queryB ts c d i (qs.map (·.np))))) := by
  have HST := hid hs
  have HGc := hid hc
  have HGd := hid hd
  have HQL := hid h.ql
  have HLt := hid h.lt
  have htl := h.tl
  have hf1 := fld1
  have hf2 := fld2
  have HR0 := hid h
  have M1 : Hid True := trivial
  generalize hT : lf E i (queryB ts c d i (qs.map (·.np))) = T at *
  have HTt := hid hT
  clear h hT hs hc hd
  go_enter Tryz.func74, Tryz.ntmps74
  go_upto_region 3 with (first
    | (refine store_nd (q := bare { n0 with kind := 1, s := t3.s, to_ := 1099511627775 }) rfl _ _ rfl rfl rfl (bare_all _) (alloc_block w3 _) rfl ?_; intro w4 h4 k4; have HB4 := hid (Bn.start2 HQ3.out HK3.out.r (At.refl w sv) HLt.out h4 k4); clear h4 k4)
    | (go_at_call 115; refine (rwants_any HR0.out wFetch).mono ?_; rintro e w2 ⟨hk, x2, v2, E2, j2, rfl, hv2, hq, hc⟩; obtain rfl := hv2; have HK2 := hid hk; have HQ2 := hid hq; have HC2 := hid hc; clear hk hq hc)
    | (go_at_call 116; refine (rkind_any HQ2.out 1).mono ?_; rintro e w3 ⟨hk, t3, v3, E3, j3, rfl, hv3, hq, hc⟩; obtain rfl := hv3; have HK3 := hid (HK2.out.trans hk); have HQ3 := hid hq; have HC3 := hid hc; clear hk hq hc))
  generalize w3.heap.size = nb at *
  cases hh : isE E3 ts j3 wFrom with
  | true =>
    have HH := hid hh
    clear hh
    go_upto_region 8 with (first
      | (go_at_call 82; refine (rsees_yes HB4.out.r (x := wFrom) HH.out).mono ?_; rintro e w5 ⟨rfl, hq, hk⟩; have HB5 := hid (HB4.out.y1 hk hq); clear hq hk)
      | (go_at_call 116; have FIRST := M1; refine (rkind_any HB5.out.r 2).mono ?_; rintro e w6 ⟨hk, t6, v6, E6, j6, rfl, hv6, hq, hc⟩; obtain rfl := hv6; have HB6 := hid (HB5.out.y1 hk hq); have HC6 := hid hc; have c6 := block_cell HB6.out.b 3; have z6 := block_frozen HB6.out.b 3; have HB7 := hid (HB6.out.set1 (q' := bare { n0 with kind := 1, s := t3.s, from_ := t6.n, to_ := 1099511627775 }) 3 (.int .i64 t6.n) (by kernel_rfl)); clear hk hq hc FIRST M1)
      | (go_at_call 115; clear c6 z6; refine (rwants_any HB7.out.r wTo).mono ?_; rintro e w8 ⟨hk, x8, v8, E8, j8, rfl, hv8, hq, hc⟩; obtain rfl := hv8; have HB8 := hid (HB7.out.y1 hk hq); have HC8 := hid hc; clear hk hq hc)
      | (go_at_call 116; refine (rkind_any HB8.out.r 2).mono ?_; rintro e w9 ⟨hk, t9, v9, E9, j9, rfl, hv9, hq, hc⟩; obtain rfl := hv9; have HB9 := hid (HB8.out.y1 hk hq); have HC9 := hid hc; have c9 := block_cell HB9.out.b 4; have z9 := block_frozen HB9.out.b 4; have HBa := hid (HB9.out.set1 (q' := bare { n0 with kind := 1, s := t3.s, from_ := t6.n, to_ := t9.n }) 4 (.int .i64 t9.n) (by kernel_rfl)); have HF := hid (fetch_cm1 HC2.out HC3.out HH.out HC6.out HC8.out hc); clear hk hq hc)
      | (refine load_node (q := bare { n0 with kind := 1, s := t3.s, from_ := t6.n, to_ := t9.n }) rfl _ rfl rfl HBa.out.b ?_)
      | (go_at_call 83; clear c9 z9; refine (rlay_any HBa.out.r (bare_in _ _ rfl rfl rfl) (fun e => by have h1 := fetch_len HF.out e; have := HQL.out; omega)).mono ?_; rintro e w1 ⟨hk, z1, E1, j1, sv1, qs1, rfl, hz1, hq, ha, hc⟩; have HB1 := hid (HBa.out.y2 hk ha hq); have HC1 := hid hc; have hz1a := hz1.1; have hz1b := hz1.2; clear hk hq hc ha hz1))
    have HI1 : Hid (InvQ ts (stepB ts c d) T ts.length z1 j1 (qs1.map (·.np)) E1) := by rw [← HTt.out]; exact invq_start HF.out (by have := HC1.out; simpa using this)
    have HE1 : Hid (¬ E = 0 → ¬ E1 = 0) := fun hE h1 => by
      rcases HI1.out with ⟨h2, -⟩ | ⟨-, a, -, h3, -⟩
      · exact h2 h1
      · rcases HC1.out with ⟨-, h4⟩ | ⟨_, -, h5, -⟩
        · exact h4 h1
        · unfold lf at h5
          split at h5
          · exact hE (fetch_len HF.out (by assumption)).1
          · cases h5
    have HO1 := hid HB1.out.r
    have HK1 := hid HB1.out.k
    have HA1 := hid HB1.out.a
    clear HB1 HC1 HF HB4 HH
    go_loopw [4] (fun u wr => ∃ (f : Nat) (z : Int) (j : Nat) (Ej : Int) (sv' : Value) (qs' : List Nd), Hid (InvQ ts (stepB ts c d) T f z j (qs'.map (·.np)) Ej) ∧ Hid (¬ E = 0 → ¬ Ej = 0) ∧ u = .int .i64 z ∧ -1 ≤ z ∧ z ≤ 1024 ∧ Hid (Ry B ts wr rb tv sv' Ej o j qs') ∧ Hid (Kp (Tq rb sv) w wr) ∧ Hid (At w sv sv')) (fun _ wr => msr rb ts wr)
    case atStart => exact ⟨ts.length, z1, j1, E1, sv1, qs1, HI1.out, HE1.out, rfl, hz1a, hz1b, HO1.out, HK1.out, HA1.out⟩
    case round =>
      obtain ⟨f, z, j, Ej, sv', qs', HI, HEr, rfl, hza, hzb, HQr, HKr, HAr⟩ := hrel
      clear HI1 HO1 HK1 HA1 hz1a hz1b HE1
      cases hw : isE Ej ts j wBar with
      | true =>
        have hE := isE_E hw
        subst hE
        have HWw := hid hw
        obtain ⟨f', a, rfl, hf', hT2⟩ := invq_more HI.out (isE_W hw)
        have HF2 := hid hf'
        have HT2 := hid hT2
        have HLj := hid (isE_lt hw)
        have HE0 : Hid (E = 0) := Classical.byContradiction fun hE => HEr.out hE rfl
        have ha2 : a < 2000 := by omega
        clear hw HI hT2 hf'
        go_wp2_with (first
          | (go_at_call 82; refine (rsees_yes HQr.out (x := wBar) HWw.out).mono ?_; rintro e w3 ⟨rfl, hq, hk⟩; have HQ3 := hid hq; have HK3 := hid (HKr.out.next HAr.out hk.r); clear hq hk)
          | (go_at_call 117; refine (HST.out HE0.out _ _ _ _ a ha2 HQ3.out).mono ?_; rintro e w4 ⟨hk, z4, E4, j4, sv4, qs4, rfl, hz4, hq, ha, hc⟩; have HK4 := hid (HK3.out.next HAr.out hk); have HQ4 := hid hq; have HC4 := hid hc; have HA4 := hid (HAr.out.trans ha HK3.out.size); have hz4a := hz4.1; have hz4b := hz4.2; clear hk hq hc ha hz4))
        have HI4 := invq_next HGc.out HGd.out HF2.out HT2.out HC4.out
        go_roundw
        case rel => exact ⟨f', z4, j4, E4, sv4, qs4, HI4.1, fun hE => absurd HE0.out hE, rfl, hz4a, hz4b, HQ4.out, HK4.out, HA4.out⟩
        case measure =>
          rw [HQ4.out.msr, HQr.out.msr, if_pos rfl]
          split
          · have := HI4.2 (by assumption); have := HQ4.out.il; omega
          · have := HLj.out; omega
      | false =>
        have HWw := hid hw
        have HM2 := hid (invq_end HI.out hw)
        clear hw HI
        go_wp2_with (go_at_call 82; refine (rsees_no HQr.out (x := wBar) HWw.out).mono ?_; rintro e w3 ⟨rfl, hq, hk⟩; have HQ3 := hid hq; have HK3 := hid (HKr.out.next HAr.out hk.r); clear hq hk)
        go_ret
        exact ⟨HK3.out, z, Ej, j, sv', qs', rfl, ⟨hza, hzb⟩, HQ3.out, HAr.out, HM2.out⟩
  | false =>
    have HH := hid hh
    clear hh
    go_upto_region 8 with (first
      | (go_at_call 82; refine (rsees_no HB4.out.r (x := wFrom) HH.out).mono ?_; rintro e w5 ⟨rfl, hq, hk⟩; have HB5 := hid (HB4.out.y1 hk hq); have HF := hid (fetch_cm0 HC2.out HC3.out HH.out); clear hq hk)
      | (refine load_node (q := bare { n0 with kind := 1, s := t3.s, to_ := 1099511627775 }) rfl _ rfl rfl HB5.out.b ?_)
      | (go_at_call 83; refine (rlay_any HB5.out.r (bare_in _ _ rfl rfl rfl) (fun e => by have h1 := fetch_len HF.out e; have := HQL.out; omega)).mono ?_; rintro e w1 ⟨hk, z1, E1, j1, sv1, qs1, rfl, hz1, hq, ha, hc⟩; have HB1 := hid (HB5.out.y2 hk ha hq); have HC1 := hid hc; have hz1a := hz1.1; have hz1b := hz1.2; clear hk hq hc ha hz1))
    have HI1 : Hid (InvQ ts (stepB ts c d) T ts.length z1 j1 (qs1.map (·.np)) E1) := by rw [← HTt.out]; exact invq_start HF.out (by have := HC1.out; simpa using this)
    have HE1 : Hid (¬ E = 0 → ¬ E1 = 0) := fun hE h1 => by
      rcases HI1.out with ⟨h2, -⟩ | ⟨-, a, -, h3, -⟩
      · exact h2 h1
      · rcases HC1.out with ⟨-, h4⟩ | ⟨_, -, h5, -⟩
        · exact h4 h1
        · unfold lf at h5
          split at h5
          · exact hE (fetch_len HF.out (by assumption)).1
          · cases h5
    have HO1 := hid HB1.out.r
    have HK1 := hid HB1.out.k
    have HA1 := hid HB1.out.a
    clear HB1 HC1 HF HB4 HH
    go_loopw [4] (fun u wr => ∃ (f : Nat) (z : Int) (j : Nat) (Ej : Int) (sv' : Value) (qs' : List Nd), Hid (InvQ ts (stepB ts c d) T f z j (qs'.map (·.np)) Ej) ∧ Hid (¬ E = 0 → ¬ Ej = 0) ∧ u = .int .i64 z ∧ -1 ≤ z ∧ z ≤ 1024 ∧ Hid (Ry B ts wr rb tv sv' Ej o j qs') ∧ Hid (Kp (Tq rb sv) w wr) ∧ Hid (At w sv sv')) (fun _ wr => msr rb ts wr)
    case atStart => exact ⟨ts.length, z1, j1, E1, sv1, qs1, HI1.out, HE1.out, rfl, hz1a, hz1b, HO1.out, HK1.out, HA1.out⟩
    case round =>
      obtain ⟨f, z, j, Ej, sv', qs', HI, HEr, rfl, hza, hzb, HQr, HKr, HAr⟩ := hrel
      clear HI1 HO1 HK1 HA1 hz1a hz1b HE1
      cases hw : isE Ej ts j wBar with
      | true =>
        have hE := isE_E hw
        subst hE
        have HWw := hid hw
        obtain ⟨f', a, rfl, hf', hT2⟩ := invq_more HI.out (isE_W hw)
        have HF2 := hid hf'
        have HT2 := hid hT2
        have HLj := hid (isE_lt hw)
        have HE0 : Hid (E = 0) := Classical.byContradiction fun hE => HEr.out hE rfl
        have ha2 : a < 2000 := by omega
        clear hw HI hT2 hf'
        go_wp2_with (first
          | (go_at_call 82; refine (rsees_yes HQr.out (x := wBar) HWw.out).mono ?_; rintro e w3 ⟨rfl, hq, hk⟩; have HQ3 := hid hq; have HK3 := hid (HKr.out.next HAr.out hk.r); clear hq hk)
          | (go_at_call 117; refine (HST.out HE0.out _ _ _ _ a ha2 HQ3.out).mono ?_; rintro e w4 ⟨hk, z4, E4, j4, sv4, qs4, rfl, hz4, hq, ha, hc⟩; have HK4 := hid (HK3.out.next HAr.out hk); have HQ4 := hid hq; have HC4 := hid hc; have HA4 := hid (HAr.out.trans ha HK3.out.size); have hz4a := hz4.1; have hz4b := hz4.2; clear hk hq hc ha hz4))
        have HI4 := invq_next HGc.out HGd.out HF2.out HT2.out HC4.out
        go_roundw
        case rel => exact ⟨f', z4, j4, E4, sv4, qs4, HI4.1, fun hE => absurd HE0.out hE, rfl, hz4a, hz4b, HQ4.out, HK4.out, HA4.out⟩
        case measure =>
          rw [HQ4.out.msr, HQr.out.msr, if_pos rfl]
          split
          · have := HI4.2 (by assumption); have := HQ4.out.il; omega
          · have := HLj.out; omega
      | false =>
        have HWw := hid hw
        have HM2 := hid (invq_end HI.out hw)
        clear hw HI
        go_wp2_with (go_at_call 82; refine (rsees_no HQr.out (x := wBar) HWw.out).mono ?_; rintro e w3 ⟨rfl, hq, hk⟩; have HQ3 := hid hq; have HK3 := hid (HKr.out.next HAr.out hk.r); clear hq hk)
        go_ret
        exact ⟨HK3.out, z, Ej, j, sv', qs', rfl, ⟨hza, hzb⟩, HQ3.out, HAr.out, HM2.out⟩
end
end Go.Proofs.YtmpjmimhoikknaaGreatDoor
namespace Go.Proofs.YtmpjmimhoikknaaGreatDoor
open Go.RowKit Go.Joins

/- A call of one argument, in a region that draws. -/
theorem step_call1 {ops : Array Oper} {o : Oper} {a : Act} {w : World} {K : Act → World → Prop} {Q : Exit → Act → World → Prop} {E : Prop} {f : FuncId} {v : Value} (hgd : o.guard = none) (x : Operand) (t : TypeId)
    (ho : o.op = .call { callee := .value (.func f), args := #[x], argTypes := #[t] }) (hx : a.eval x = v) (hen : ∀ args w, (callFunc f args).run Tryz.prog w = .ok (.enter f args) w)
    (hc : Calls Tryz.prog f #[v] w fun e w' => ∃ u, e = .returned u ∧ K (a.put o.dst u) w') : if Region.wanted o (yielded ops a.tmps) = true then Oper.wp Tryz.prog o a w K Q else E := by
  have hw : Region.wanted o (yielded ops a.tmps) = true := by simp [Region.wanted, hgd]
  rw [if_pos hw]
  unfold Oper.wp
  have hr : (execOp a.eval o).run Tryz.prog w = .ok (.enter f #[v]) w := by
    simp [execOp, ho, resolve, invoke, hen, go_sem]
    rw [← hx]
    cases x <;> simp [Act.eval]
  rw [hr, Oper.upon_enter]
  refine hc.mono ?_
  rintro e w' ⟨u, rfl, hk⟩
  exact hk
theorem enters_rcond : ∀ args w, (callFunc 47 args).run Tryz.prog w = .ok (.enter 47 args) w := enters_of Tryz.func47 (by kernel_rfl) rfl
theorem enters_rquery : ∀ args w, (callFunc 74 args).run Tryz.prog w = .ok (.enter 74 args) w := enters_of Tryz.func74 (by kernel_rfl) rfl
/- A second number behind the first, which has no room. -/
theorem step_app2 {ops : Array Oper} {op : Oper} {a : Act} {w : World} {K : Act → World → Prop} {Q : Exit → Act → World → Prop} {E : Prop} {B lb zb : Nat} {r z : Int} (hgd : op.guard = none) (s x : Operand) (ho : op.op = .call { callee := .builtin .append, args := #[s, x], argTypes := #[40, 40] })
    (hs : a.eval s = .slice (some ⟨lb, 0, none⟩) 1 1) (hx : a.eval x = .slice (some ⟨zb, 0, none⟩) 1 1) (hown : Own int1 1 3 B w (.slice (some ⟨lb, 0, none⟩) 1 1) [r]) (hz : w.cell? ⟨zb, 0, none⟩ = some (.int .i64 z)) (hB : B ≤ w.heap.size)
    (h : ∀ v' w', Own int1 1 3 B w' v' [r, z] → Below w.heap.size w w' → K (a.put op.dst v') w') : if Region.wanted op (yielded ops a.tmps) = true then Oper.wp Tryz.prog op a w K Q else E := by
  have hw : Region.wanted op (yielded ops a.tmps) = true := by simp [Region.wanted, hgd]
  rw [if_pos hw]
  obtain ⟨ht, hkp, i0, zz, hi, hz0, hz1, hz2, hzs⟩ := elem_int
  have hnews : ∀ (j : Nat) c, [Value.int .i64 z][j]? = some c → w.cell? ((⟨zb, 0, none⟩ : Addr).add j) = some c := by
    intro j c hj
    cases j with
    | zero => cases hj; rw [Addr.add_mid]; exact hz
    | succ j => cases hj
  have h1 : ∀ u ∈ [Value.int .i64 z], u.oneCell' = true := by intro u hu; simp at hu; subst hu; rfl
  have hby : (1 + 1) * i0.bytes ≤ 140737488355328 := Nat.le_trans (Nat.mul_le_mul_left _ hz2) (by decide)
  obtain ⟨v', w', hr, h2, h3, h4⟩ := run_append_own (P := Tryz.prog) w B 40 op.type 3 i0 zz 1 i0.bytes ht hi hz0 hz1 rfl hzs hkp _ 1 [Value.int .i64 r] hown ⟨zb, 0, none⟩ 1 1 [Value.int .i64 z] rfl hnews h1 (by decide) hby hB
  have holds : ∀ j u, [Value.int .i64 r][j]? = some u → w.cell? ((⟨lb, 0, none⟩ : Addr).add j) = some u := World.ownsRow.cells hown (g := lb) rfl
  have hr2 := run_append_grow (P := Tryz.prog) w 40 op.type 3 i0 zz ht hi hz0 ⟨lb, 0, none⟩ 1 1 [Value.int .i64 r] (by rw [hz1]; rfl) holds ⟨zb, 0, none⟩ 1 1 [Value.int .i64 z] (by rw [hz1]; rfl) hnews (by decide) (by decide) (growslice_fits (by decide) hby)
  have hb : Below w.heap.size w w' := by
    rw [hr] at hr2
    cases hr2
    exact (Below.refl _ _).drew.alloc (Nat.le_refl _) _
  unfold Oper.wp execOp
  simp only [ho, resolve, invoke, builtin, Sem.run_bind, Sem.run_pure, Result.andThen_ok, List.map_toArray, List.map_cons, List.map_nil, hs, hx, hr]
  exact h v' w' h2 hb
section
variable {B : Nat} {ts : List Tp} {w w' wr : World} {rb : Nat} {tv sv0 sv sv' : Value} {E E' : Int} {o o' i j j' : Nat} {qs qs' : List Nd} {nb : Nat} {q q' : Nd}
structure Bm (B : Nat) (ts : List Tp) (w : World) (rb : Nat) (tv sv0 sv : Value) (E : Int) (o j : Nat) (qs : List Nd) (nb : Nat) (q : Nd) (wr : World) : Prop where
  h : Bn B ts w rb tv sv0 sv E o j qs nb q wr
  d : NdIn B wr q
theorem Bm.y1 (h : Bm B ts w rb tv sv0 sv E o j qs nb q wr) (hk : Kp (fun k => k = rb) wr w') (hr : Ry B ts w' rb tv sv E' o' j' qs) : Bm B ts w rb tv sv0 sv E' o' j' qs nb q w' := ⟨h.h.y1 hk hr, h.d.kp hk h.h.r.tkr⟩
theorem Bm.y2 (h : Bm B ts w rb tv sv0 sv E o j qs nb q wr) (hk : Kp (Tq rb sv) wr w') (ha : At wr sv sv') (hr : Ry B ts w' rb tv sv' E' o' j' qs') : Bm B ts w rb tv sv0 sv' E' o' j' qs' nb q w' := ⟨h.h.y2 hk ha hr, h.d.kp hk h.h.r.tk⟩
theorem Bm.on (h : Bm B ts w rb tv sv0 sv E o j qs nb q wr) (hb : Below wr.heap.size wr w') : Bm B ts w rb tv sv0 sv E o j qs nb q w' := ⟨h.h.on hb, h.d.on hb⟩
theorem Bm.set1 (h : Bm B ts w rb tv sv0 sv E o j qs nb q wr) (c : Nat) (v : Value) (hq : q.cells.toArray.setIfInBounds c v = q'.cells.toArray) (hd : NdIn B wr q → NdIn B wr q') : Bm B ts w rb tv sv0 sv E o j qs nb q' (wr.setCell ⟨nb, c, none⟩ v) :=
  ⟨h.h.set1 c v hq, (hd h.d).kp (Kp.set (T := fun k => k = nb) rfl v) h.h.tk⟩
theorem Bm.start {rows : Int} (h : Ry B ts w rb tv sv E o j qs) (hS : S6 (w.alloc (.cells #[.int .i64 rows] 3)).heap.size (nam1 w { n0 with l := [rows] }).cells.toArray w') (hk' : Kp (fun k => k = (w.alloc (.cells #[.int .i64 rows] 3)).heap.size) ((w.alloc (.cells #[.int .i64 rows] 3)).alloc (.cells zNd 44)) w') :
    Bm B ts w rb tv sv sv E o j qs (w.alloc (.cells #[.int .i64 rows] 3)).heap.size (nam1 w { n0 with l := [rows] }) w' := by
  have hr := h.on ((Below.refl _ _).alloc (Nat.le_refl _) (.cells #[.int .i64 rows] 3))
  refine ⟨Bn.start2 hr (Kp.alloc _ _ _) (At.refl _ _) h.lt hS hk', ?_⟩
  have hd : NdIn B (w.alloc (.cells #[.int .i64 rows] 3)) (nam1 w { n0 with l := [rows] }) := nam1_in (a := rows) h.B_le rfl rfl rfl
  refine (hd.on ((Below.refl _ _).alloc (Nat.le_refl _) (.cells zNd 44))).kp hk' ?_
  rintro k rfl c t fz hc
  rw [alloc_block] at hc; cases hc; decide
theorem zNd_at (w : World) (rows : Int) : ((w.alloc (.cells #[.int .i64 rows] 3)).alloc (.cells zNd 44)).heap[w.heap.size + 1]? = some (.cells zNd 44 (0, 0)) := by
  have h := alloc_block (w.alloc (.cells #[.int .i64 rows] 3)) (.cells zNd 44)
  rw [show (w.alloc (.cells #[.int .i64 rows] 3)).heap.size = w.heap.size + 1 by simp] at h
  exact h
theorem Bm.start1 {rows : Int} (h : Ry B ts w rb tv sv E o j qs) (hS : S6 (w.heap.size + 1) (nam1 w { n0 with l := [rows] }).cells.toArray w') (hk' : Kp (fun k => k = w.heap.size + 1) ((w.alloc (.cells #[.int .i64 rows] 3)).alloc (.cells zNd 44)) w') : Bm B ts w rb tv sv sv E o j qs (w.heap.size + 1) (nam1 w { n0 with l := [rows] }) w' := by
  have e : (w.alloc (.cells #[.int .i64 rows] 3)).heap.size = w.heap.size + 1 := by simp
  have := Bm.start (rows := rows) (w' := w') h (by rw [e]; exact hS) (by rw [e]; exact hk')
  rw [e] at this; exact this
theorem NdIn.same (h : NdIn B w q) (h1 : q'.lv = q.lv) (h2 : q'.nv = q.nv) (h3 : q'.gv = q.gv) (h4 : q'.np.l = q.np.l) (h5 : q'.np.names = q.np.names) (h6 : q'.np.aggs = q.np.aggs) : NdIn B w q' :=
  ⟨by rw [h1, h4]; exact h.l, by rw [h2, h5]; exact h.n, by rw [h3, h6]; exact h.g⟩
/- Mathematics. -/
variable {c : PN} {d : Option PN} {rows : Nat} {ns ns9 : List Np} {z9 E9 : Int} {j9 : Nat}
theorem step_k {k : Nat} (hk : k < 7) (hn : ∀ m, m < k → isW ts i (stepW.getD m []) = false) (hy : isW ts i (stepW.getD k []) = true) : oneOfS ts stepW i = .ok k (i + 1) := by
  unfold oneOfS
  rw [idx_first stepW 0 k hk hn hy, Nat.zero_add]
theorem cm_fin {α : Type} {r : Rs α} {g : α → Np} {x : α} (h : Cm r x j E) (h9 : Cm2 (lf E j (.ok (ns.length, ns ++ [g x]) j)) z9 ns9 j9 E9) : Cm2 (r.and fun x j => .ok (ns.length, ns ++ [g x]) j) z9 ns9 j9 E9 := by
  rcases h with ⟨h, hE⟩ | ⟨h, rfl⟩
  · unfold lf at h9; rw [if_neg hE] at h9
    rw [h]; exact h9
  · unfold lf at h9; rw [if_pos rfl] at h9
    rw [h]; exact h9
theorem cm0 {α : Type} {r : Rs α} {x : α} (h : Cm (lf 0 i r) x j E) : Cm r x j E := by unfold lf at h; rw [if_pos rfl] at h; exact h
theorem step_none (hn : ∀ m, m < 7 → isW ts i (stepW.getD m []) = false) (h9 : Cm2 (lf 120 i (.ok (ns.length, ns ++ [n0]) i)) z9 ns9 j9 E9) : Cm2 ((stepB ts c d rows i ns).and stepK) z9 ns9 j9 E9 := by
  have e : stepB ts c d rows i ns = .bad i 120 := by unfold stepB oneOfS; rw [idx_nil stepW 0 hn]; rfl
  rw [e]
  unfold lf at h9; rw [if_neg (by decide)] at h9; exact h9
end
end Go.Proofs.YtmpjmimhoikknaaGreatDoor
