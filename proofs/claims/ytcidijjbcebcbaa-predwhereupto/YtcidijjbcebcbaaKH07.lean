/-
  The reference's reader takes a value.
  The reference's reader takes names.
  The reference's reader: what and, what or joins.
  The reference's reader: not, with an error, and ahead of a not.
  The reference's reader: not, ahead of a not.
-/
import Derived.Test.YtcidijjbcebcbaaKH06
namespace Go.Proofs.Ytcidijjbcebcbaa
open Go.RowKit Go.Joins

theorem ok_lf {α : Type} {E : Int} {i : Nat} {x : α} : Cm (lf E i (.ok x i)) x i E := by
  by_cases hE : E = 0
  · exact .inr ⟨if_pos hE, hE⟩
  · exact lf_bad hE
theorem Cm.map {α β : Type} {r : Rs α} {g : α → β} {x : α} {i0 i : Nat} {E0 E : Int} (h : Cm (lf E0 i0 r) x i E) : Cm (lf E0 i0 (r.and fun t j => .ok (g t) j)) (g x) i E := h.lfand ok_lf
theorem isE_false {E : Int} {ts : List Tp} {i : Nat} {x : List UInt8} (h : isE E ts i x = false) (hE : E = 0) : isW ts i x = false := by
  subst hE; simpa [isE] using h
theorem word_no {ts : List Tp} {i : Nat} {x : List UInt8} {k : Int} (h : isW ts i x = true) (h1 : ¬ k = 1) (h4 : ¬ k = 4) : isK ts i k = false := by
  unfold isW at h; unfold isK
  cases e : ts[i]? with
  | none => rfl
  | some t =>
    rw [e] at h
    simp at h
    simp
    rcases h.1 with h | h <;> omega
theorem value_true {ts : List Tp} {i : Nat} (h : isW ts i [116, 114, 117, 101] = true) : valueS ts i = .ok (3, 1, []) (i + 1) := by
  have hf : isW ts i [102, 97, 108, 115, 101] = false := by
    cases hw : isW ts i [102, 97, 108, 115, 101] with
    | false => rfl
    | true =>
      unfold isW at h hw
      cases e : ts[i]? with
      | none => rw [e] at h; cases h
      | some t => rw [e] at h hw; simp at h hw; rw [h.2] at hw; simp at hw
  simp [valueS, word_no h (k := 2) (by decide) (by decide), word_no h (k := 3) (by decide) (by decide), oneOfS, boolW, idxOf, h, hf, Rs.and]
theorem value_false {ts : List Tp} {i : Nat} (h : isW ts i [102, 97, 108, 115, 101] = true) : valueS ts i = .ok (3, 0, []) (i + 1) := by
  simp [valueS, word_no h (k := 2) (by decide) (by decide), word_no h (k := 3) (by decide) (by decide), oneOfS, boolW, idxOf, h, Rs.and]
theorem value_num {ts : List Tp} {i : Nat} (h : isK ts i 2 = true) : valueS ts i = (takeS ts 2 i).and fun t j => .ok ((1, t.n, []) : Int × Int × List UInt8) j := by
  simp [valueS, h, numS', takeS, Rs.and]
theorem value_txt {ts : List Tp} {i : Nat} (h2 : isK ts i 2 = false) (ht : isW ts i [116, 114, 117, 101] = false) (hf : isW ts i [102, 97, 108, 115, 101] = false) : valueS ts i = (takeS ts 3 i).and fun t j => .ok ((2, 0, t.s) : Int × Int × List UInt8) j := by
  cases h3 : isK ts i 3 with
  | true => simp [valueS, h2, h3, textV]
  | false => simp [valueS, h2, h3, takeS, oneOfS, boolW, idxOf, ht, hf, Rs.and]
theorem rv_txt {ts : List Tp} {i j : Nat} {E E' : Int} {t : Tp} (h2 : isK ts i 2 = false) (ht : isE E ts i [116, 114, 117, 101] = false) (hf : isE E ts i [102, 97, 108, 115, 101] = false) (h : Cm (lf E i (takeS ts 3 i)) t j E') : Cm (lf E i (valueS ts i)) ((2, 0, t.s) : Int × Int × List UInt8) j E' := by
  by_cases hE : E = 0
  · rw [value_txt h2 (isE_false ht hE) (isE_false hf hE)]; exact h.map (g := fun t => ((2, 0, t.s) : Int × Int × List UInt8))
  · unfold lf at h ⊢
    rw [if_neg hE] at h ⊢
    rcases h with ⟨h, h2⟩ | ⟨h, h2⟩
    · cases h; exact .inl ⟨rfl, h2⟩
    · cases h
section
variable {B : Nat} {ts : List Tp} {w w' : World} {rb : Nat} {tv sv : Value} {E : Int} {o i : Nat} {qs : List Nd}
set_option maxRecDepth 100000 in
set_option maxHeartbeats 2000000 in
theorem rvalue_any (h : Ry B ts w rb tv sv E o i qs) : Calls Try.prog 135 #[dp rb] w (Y1 B ts rb tv sv o qs w vVal (lf E i (valueS ts i))) := by
  have HB0 : Hid (Below w.heap.size w (w.alloc (.cells zVl 39))) := (Below.refl _ _).alloc (Nat.le_refl _) _
  have HZ := hid (alloc_block w (.cells zVl 39))
  have hf1 := fld1
  have hf2 := fld2
  have HQ0 := hid (h.on HB0.out)
  have HR0 := hid h
  have hne : ¬ rb = w.heap.size := by have := h.lt; omega
  have HSt := hid (rsees_any HQ0.out [116, 114, 117, 101])
  have hil := h.il
  have htl := h.tl
  obtain ⟨p, cap, rfl, hc1, hc2⟩ := h.tok.form
  unfold maxLen at hc2
  generalize hW : w.alloc (.cells zVl 39) = w1 at *
  have HW := hid hW
  have M1 : Hid True := trivial
  clear h hW
  cases ct : isE E ts i [116, 114, 117, 101] with
  | true =>
    have CT := hid ct
    rw [ct] at HSt
    clear ct
    go_enter Try.func135, Try.ntmps135
    go_upto_region 1 with fail
    rw [HW.out]
    go_wp2_with (first
      | (go_at_call 87; refine HSt.out.mono ?_; rintro e w2 ⟨rfl, hq, hk⟩; have HQ := hid hq; have HK := hid hk; clear hq hk)
      | (refine store_val (c := (3, 1, [])) rfl _ _ rfl rfl rfl (HK.out.blk HZ.out (fun e => hne e.symm)) rfl ?_; intro w4 h4 k4; have H4 := hid h4; have K4 := hid k4; clear h4 k4))
    obtain ⟨a, b⟩ := HR0.out.back HQ.out ((Kp.of HB0.out).trans HK.out) K4.out ⟨_, _, _, HK.out.blk HZ.out (fun e => hne e.symm), by decide⟩
    exact ret_val rfl rfl H4.out rfl rfl ⟨b, _, _, _, _, rfl, rfl, a, by have hE := isE_E CT.out; subst hE; exact .inr ⟨by rw [value_true (isE_W CT.out)]; rfl, rfl⟩⟩
  | false =>
    have CT := hid ct
    rw [ct] at HSt
    clear ct
    cases cf : isE E ts i [102, 97, 108, 115, 101] with
    | true =>
      have CF := hid cf
      clear cf
      go_enter Try.func135, Try.ntmps135
      go_upto_region 1 with fail
      rw [HW.out]
      go_wp2_with (first
        | (go_at_call 87; have FIRST := M1; refine HSt.out.mono ?_; rintro e w2 ⟨rfl, hq, hk⟩; have HQ1 := hid hq; have HK1 := hid hk; have HS2 := hid (rsees_any hq [102, 97, 108, 115, 101]); simp only [Bool.false_eq_true, if_false, CF.out] at HS2; clear hq hk M1 FIRST)
        | (go_at_call 87; refine HS2.out.mono ?_; rintro e w3 ⟨rfl, hq, hk⟩; have HQ := hid hq; have HK := hid (HK1.out.trans hk); clear hq hk)
        | (refine store_val (c := (3, 0, [])) rfl _ _ rfl rfl rfl (HK.out.blk HZ.out (fun e => hne e.symm)) rfl ?_; intro w4 h4 k4; have H4 := hid h4; have K4 := hid k4; clear h4 k4))
      obtain ⟨a, b⟩ := HR0.out.back HQ.out ((Kp.of HB0.out).trans HK.out) K4.out ⟨_, _, _, HK.out.blk HZ.out (fun e => hne e.symm), by decide⟩
      exact ret_val rfl rfl H4.out rfl rfl ⟨b, _, _, _, _, rfl, rfl, a, by have hE := isE_E CF.out; subst hE; exact .inr ⟨by rw [value_false (isE_W CF.out)]; rfl, rfl⟩⟩
    | false =>
      have CF := hid cf
      clear cf
      cases c2 : isK ts i 2 with
      | true =>
        have C2 := hid c2
        have hi := isK_lt c2
        have bk : ((ts[i]).kind == 2) = true := by unfold isK at c2; rw [List.getElem?_eq_getElem hi] at c2; simpa using c2
        have iI : (i : Int) < ts.length := by omega
        have d2 : decide (i < ts.length) = true := by simp; omega
        clear c2
        go_enter Try.func135, Try.ntmps135
        go_upto_region 1 with fail
        rw [HW.out]
        go_upto_region 5 with (first
          | (go_at_call 87; have FIRST := M1; refine HSt.out.mono ?_; rintro e w2 ⟨rfl, hq, hk⟩; have HQ1 := hid hq; have HK1 := hid hk; have HS2 := hid (rsees_any hq [102, 97, 108, 115, 101]); simp only [Bool.false_eq_true, if_false, CF.out] at HS2; clear hq hk M1 FIRST)
          | (go_at_call 87; refine HS2.out.mono ?_; rintro e w3 ⟨rfl, hq, hk⟩; have HQ := hid hq; have HK := hid (HK1.out.trans hk); have k3 := hq.cell; clear hq hk))
        obtain ⟨g, og, rfl, hg, hc⟩ := HQ.out.tok.at (j := i) (List.getElem?_eq_getElem hi)
        have e0 : w3.cell? ⟨g, og + i * 4, none⟩ = some (.int .i64 (ts[i]).kind) := hc 0 _ rfl
        clear hc hg
        generalize ts[i] = t at *
        generalize hln : ts.length = ln at *
        have HLn := hid hln
        clear hln
        go_quiet (fail)
        have HQ3 := hid (HQ.out.on (below_drewN (Below.refl _ w3) nq))
        have HK3 := hid (HK.out.trans (Kp.of (below_drewN (Below.refl _ w3) nq)))
        clear k3
        generalize w3.drewN nq = W3 at *
        go_wp2_with (first
          | (go_at_call 134; refine (rkind_any HQ3.out 2).mono ?_; rintro e w5 ⟨hk, t5, v5, E5, j5, rfl, rfl, hq, hc⟩; have HQ5 := hid hq; have HK5 := hid (HK3.out.trans hk); have HC5 := hid hc; clear hq hk hc)
          | (refine store_val (c := (1, t5.n, [])) rfl _ _ rfl rfl rfl (HK5.out.blk HZ.out (fun e => hne e.symm)) rfl ?_; intro w6 h6 k6; have H6 := hid h6; have K6 := hid k6; clear h6 k6))
        obtain ⟨a, b⟩ := HR0.out.back HQ5.out ((Kp.of HB0.out).trans HK5.out) K6.out ⟨_, _, _, HK5.out.blk HZ.out (fun e => hne e.symm), by decide⟩
        exact ret_val rfl rfl H6.out rfl rfl ⟨b, (1, t5.n, []), _, E5, j5, rfl, rfl, a, (by rw [value_num C2.out]; exact HC5.out.map (g := fun t => ((1, t.n, []) : Int × Int × List UInt8)))⟩
      | false =>
        have C2 := hid c2
        by_cases hi : i < ts.length
        · have bk : ((ts[i]).kind == 2) = false := by unfold isK at c2; rw [List.getElem?_eq_getElem hi] at c2; simpa using c2
          have iI : (i : Int) < ts.length := by omega
          have d2 : decide (i < ts.length) = true := by simp; omega
          clear c2
          go_enter Try.func135, Try.ntmps135
          go_upto_region 1 with fail
          rw [HW.out]
          go_upto_region 5 with (first
            | (go_at_call 87; have FIRST := M1; refine HSt.out.mono ?_; rintro e w2 ⟨rfl, hq, hk⟩; have HQ1 := hid hq; have HK1 := hid hk; have HS2 := hid (rsees_any hq [102, 97, 108, 115, 101]); simp only [Bool.false_eq_true, if_false, CF.out] at HS2; clear hq hk M1 FIRST)
            | (go_at_call 87; refine HS2.out.mono ?_; rintro e w3 ⟨rfl, hq, hk⟩; have HQ := hid hq; have HK := hid (HK1.out.trans hk); have k3 := hq.cell; clear hq hk))
          obtain ⟨g, og, rfl, hg, hc⟩ := HQ.out.tok.at (j := i) (List.getElem?_eq_getElem hi)
          have e0 : w3.cell? ⟨g, og + i * 4, none⟩ = some (.int .i64 (ts[i]).kind) := hc 0 _ rfl
          clear hc hg
          generalize ts[i] = t at *
          generalize hln : ts.length = ln at *
          have HLn := hid hln
          clear hln
          go_quiet (fail)
          have HQ3 := hid (HQ.out.on (below_drewN (Below.refl _ w3) nq))
          have HK3 := hid (HK.out.trans (Kp.of (below_drewN (Below.refl _ w3) nq)))
          clear k3
          generalize w3.drewN nq = W3 at *
          go_wp2_with (first
            | (go_at_call 134; refine (rkind_any HQ3.out 3).mono ?_; rintro e w5 ⟨hk, t5, v5, E5, j5, rfl, rfl, hq, hc⟩; have HQ5 := hid hq; have HK5 := hid (HK3.out.trans hk); have HC5 := hid hc; clear hq hk hc)
            | (refine store_val (c := (2, 0, t5.s)) rfl _ _ rfl rfl rfl (HK5.out.blk HZ.out (fun e => hne e.symm)) rfl ?_; intro w6 h6 k6; have H6 := hid h6; have K6 := hid k6; clear h6 k6))
          obtain ⟨a, b⟩ := HR0.out.back HQ5.out ((Kp.of HB0.out).trans HK5.out) K6.out ⟨_, _, _, HK5.out.blk HZ.out (fun e => hne e.symm), by decide⟩
          exact ret_val rfl rfl H6.out rfl rfl ⟨b, (2, 0, t5.s), _, E5, j5, rfl, rfl, a, rv_txt C2.out CT.out CF.out HC5.out⟩
        · have iI : ¬ (i : Int) < ts.length := by omega
          have d2 : decide (i < ts.length) = false := by simp; omega
          clear c2
          go_enter Try.func135, Try.ntmps135
          go_upto_region 1 with fail
          rw [HW.out]
          go_upto_region 5 with (first
            | (go_at_call 87; have FIRST := M1; refine HSt.out.mono ?_; rintro e w2 ⟨rfl, hq, hk⟩; have HQ1 := hid hq; have HK1 := hid hk; have HS2 := hid (rsees_any hq [102, 97, 108, 115, 101]); simp only [Bool.false_eq_true, if_false, CF.out] at HS2; clear hq hk M1 FIRST)
            | (go_at_call 87; refine HS2.out.mono ?_; rintro e w3 ⟨rfl, hq, hk⟩; have HQ := hid hq; have HK := hid (HK1.out.trans hk); have k3 := hq.cell; clear hq hk))
          generalize hln : ts.length = ln at *
          have HLn := hid hln
          clear hln
          go_quiet (fail)
          have HQ3 := hid (HQ.out.on (below_drewN (Below.refl _ w3) nq))
          have HK3 := hid (HK.out.trans (Kp.of (below_drewN (Below.refl _ w3) nq)))
          clear k3
          generalize w3.drewN nq = W3 at *
          go_wp2_with (first
            | (go_at_call 134; refine (rkind_any HQ3.out 3).mono ?_; rintro e w5 ⟨hk, t5, v5, E5, j5, rfl, rfl, hq, hc⟩; have HQ5 := hid hq; have HK5 := hid (HK3.out.trans hk); have HC5 := hid hc; clear hq hk hc)
            | (refine store_val (c := (2, 0, t5.s)) rfl _ _ rfl rfl rfl (HK5.out.blk HZ.out (fun e => hne e.symm)) rfl ?_; intro w6 h6 k6; have H6 := hid h6; have K6 := hid k6; clear h6 k6))
          obtain ⟨a, b⟩ := HR0.out.back HQ5.out ((Kp.of HB0.out).trans HK5.out) K6.out ⟨_, _, _, HK5.out.blk HZ.out (fun e => hne e.symm), by decide⟩
          exact ret_val rfl rfl H6.out rfl rfl ⟨b, (2, 0, t5.s), _, E5, j5, rfl, rfl, a, rv_txt C2.out CT.out CF.out HC5.out⟩
end
end Go.Proofs.Ytcidijjbcebcbaa
namespace Go.Proofs.Ytcidijjbcebcbaa
open Go.RowKit Go.Joins

theorem take_lf {ts : List Tp} {k : Int} {i j : Nat} {E E' : Int} {x : Tp} (h : Cm (lf E i (takeS ts k i)) x j E') : i ≤ j := by
  unfold lf takeS at h
  split at h
  · split at h
    · rcases h with ⟨h, h2⟩ | ⟨h, h2⟩
      · cases h
      · cases h; omega
    · rcases h with ⟨h, h2⟩ | ⟨h, h2⟩
      · cases h; omega
      · cases h
  · rcases h with ⟨h, h2⟩ | ⟨h, h2⟩
    · cases h; omega
    · cases h
section
variable {B : Nat} {ts : List Tp} {w w' : World} {rb : Nat} {tv sv : Value} {E : Int} {o i : Nat} {qs : List Nd}
theorem Ry.backN {w1 w2 : World} {E' : Int} {j o' : Nat} (h0 : Ry B ts w rb tv sv E o i qs) (h1 : Ry B ts w1 rb tv sv E' o' j qs) (hk : Kp (fun k => k = rb) w w1) (h2 : Kp (fun k => w.heap.size ≤ k) w1 w2) : Ry B ts w2 rb tv sv E' o' j qs ∧ Kp (fun k => k = rb) w w2 := by
  have hl := h0.lt
  have hk2 : Kp (fun k => k = rb) w w2 := hk.trans' h2 (fun k hk ht => by omega)
  exact ⟨h0.put hk2 (h2.blk h1.blk (by omega)) h1.il h1.ql h1.ol, hk2⟩
theorem Ry.atOf (h : Ry B ts w rb tv sv E o i qs) : atOf rb w = i := by
  unfold Go.Proofs.Ytcidijjbcebcbaa.atOf
  rw [h.cell 1]
  simp
theorem Own.rdy {α : Type} {enc : α → List Value} {k e n : Nat} {w' : World} {v : Value} {xs : List α} (h : Own enc k e n w v xs) (hq : Ry B ts w rb tv sv E o i qs) (hk : Kp (fun k => k = rb) w w') (he : e ≠ 91) : Own enc k e n w' v xs :=
  h.kpk hk (fun g hT c t fz hc => by subst hT; rw [hq.blk] at hc; cases hc; exact fun e' => he e'.symm)
end
end Go.Proofs.Ytcidijjbcebcbaa
namespace Go.Proofs.Ytcidijjbcebcbaa
open Go.RowKit Go.Joins

theorem lf_bad_and {α β : Type} {E c : Int} {i j : Nat} {r : Rs α} {f : α → Nat → Rs β} (h : lf E i r = .bad j c) : lf E i (r.and f) = .bad j c := by
  unfold lf at h ⊢
  split
  · rename_i hE; rw [if_pos hE] at h; rw [h]; rfl
  · rename_i hE; rw [if_neg hE] at h; cases h; rfl
theorem lf_ok_and {α β : Type} {E : Int} {i j : Nat} {r : Rs α} {x : α} {f : α → Nat → Rs β} (h : lf E i r = .ok x j) : lf E i (r.and f) = f x j ∧ r = .ok x j := by
  unfold lf at h ⊢
  split
  · rename_i hE; rw [if_pos hE] at h; rw [h]; exact ⟨rfl, rfl⟩
  · rename_i hE; rw [if_neg hE] at h; cases h
/- Where a chain stands; T: what it comes to. -/
def InvC (ts : List Tp) (x : List UInt8) (kind : Int) (p : PN) (T : Rs (Nat × List Np)) (f : Nat) (z : Int) (j : Nat) (ns : List Np) (E : Int) : Prop :=
  (E = 0 ∧ ∃ a : Nat, z = a ∧ a < ns.length ∧ ts.length ≤ f + j ∧ T = chainL ts x kind p f a j ns) ∨ (¬ E = 0 ∧ T = .bad j E)
theorem inv_start {ts : List Tp} {x : List UInt8} {kind : Int} {p : PN} {E E1 z : Int} {i j : Nat} {ns ns1 : List Np} (hg : GoN ts p) (h : Cm2 (lf E i (p i ns)) z ns1 j E1) : InvC ts x kind p (lf E i (chainS ts x kind p i ns)) ts.length z j ns1 E1 := by
  rcases h with ⟨h, hE⟩ | ⟨a, rfl, h, hE⟩
  · exact .inr ⟨hE, lf_bad_and h⟩
  · obtain ⟨h1, h2⟩ := lf_ok_and (f := fun r j => chainL ts x kind p ts.length r.1 j r.2) h
    have g := hg _ _ _ _ h2
    exact .inl ⟨hE, a, rfl, g.2.2.2.1, by omega, h1⟩
theorem inv_more {ts : List Tp} {x : List UInt8} {kind : Int} {p : PN} {T : Rs (Nat × List Np)} {f j : Nat} {z : Int} {ns : List Np} (h : InvC ts x kind p T f z j ns 0) (hw : isW ts j x = true) : ∃ f' a : Nat, z = a ∧ (ts.length ≤ f' + 1 + j ∧ T = (p (j + 1) ns).and fun r j => chainL ts x kind p f' r.2.length j (r.2 ++ [{ n0 with kind := kind, l := [(a : Int), (r.1 : Int)] }])) := by
  rcases h with ⟨-, a, hz, -, hf, hT⟩ | ⟨h, -⟩
  · have hl := isW_lt hw
    obtain ⟨f', rfl⟩ : ∃ f', f = f' + 1 := ⟨f - 1, by omega⟩
    rw [chainL, if_pos hw] at hT
    exact ⟨f', a, hz, hf, hT⟩
  · exact absurd rfl h
theorem inv_end {ts : List Tp} {x : List UInt8} {kind : Int} {p : PN} {T : Rs (Nat × List Np)} {f j : Nat} {z E : Int} {ns : List Np} (h : InvC ts x kind p T f z j ns E) (hw : E = 0 → isW ts j x = false) : Cm2 T z ns j E := by
  rcases h with ⟨hE, a, hz, -, -, hT⟩ | ⟨hE, hT⟩
  · refine .inr ⟨a, hz, ?_, hE⟩
    rw [hT]
    cases f with
    | zero => rfl
    | succ f => rw [chainL, if_neg (by rw [hw hE]; decide)]
  · exact .inl ⟨hT, hE⟩
theorem part_len {ts : List Tp} {p : PN} {j j4 : Nat} {z4 E4 : Int} {qs' qs4 : List Nd} (hg : GoN ts p) (h : Cm2 (lf 0 (if true = true then j + 1 else j) (p (if true = true then j + 1 else j) (qs'.map (·.np)))) z4 (qs4.map (·.np)) j4 E4) (hE : E4 = 0) (hl : qs'.length ≤ j) : qs4.length + 1 ≤ j4 := by
  simp only [if_true] at h
  rcases h with ⟨h, hn⟩ | ⟨a, -, h, -⟩
  · exact absurd hE hn
  · unfold lf at h; rw [if_pos rfl] at h
    have g := hg _ _ _ _ h
    simp at g; omega
theorem inv_next {ts : List Tp} {x : List UInt8} {kind : Int} {p : PN} {T : Rs (Nat × List Np)} {f' a j j4 j5 : Nat} {z4 z5 E4 E5 : Int} {ns : List Np} {qs4 qs5 : List Nd} (hg : GoN ts p)
    (hT : ts.length ≤ f' + 1 + j ∧ T = (p (j + 1) ns).and fun r j => chainL ts x kind p f' r.2.length j (r.2 ++ [{ n0 with kind := kind, l := [(a : Int), (r.1 : Int)] }]))
    (h4 : Cm2 (lf 0 (j + 1) (p (j + 1) ns)) z4 (qs4.map (·.np)) j4 E4) (h5 : Cm2 (lf E4 j4 (.ok (qs4.length, qs4.map (·.np) ++ [{ n0 with kind := kind, l := [(a : Int), z4] }]) j4)) z5 (qs5.map (·.np)) j5 E5) (_hl : j < ts.length) : InvC ts x kind p T f' z5 j5 (qs5.map (·.np)) E5 ∧ (E5 = 0 → j + 2 ≤ j5) := by
  obtain ⟨hf, rfl⟩ := hT
  rcases h4 with ⟨h4, hn⟩ | ⟨b, rfl, h4, rfl⟩
  · have e5 : lf E4 j4 (.ok (qs4.length, qs4.map (·.np) ++ [{ n0 with kind := kind, l := [(a : Int), z4] }]) j4) = .bad j4 E4 := if_neg hn
    rw [e5] at h5
    rcases h5 with ⟨h5, hn5⟩ | ⟨_, _, h5, _⟩
    · cases h5
      unfold lf at h4; rw [if_pos rfl] at h4
      exact ⟨.inr ⟨hn, by rw [h4]; rfl⟩, fun e => absurd e hn⟩
    · cases h5
  · unfold lf at h4 h5; rw [if_pos rfl] at h4 h5
    have g := hg _ _ _ _ h4
    rcases h5 with ⟨h5, _⟩ | ⟨c, rfl, h5, rfl⟩
    · cases h5
    · simp only [Rs.ok.injEq, Prod.mk.injEq] at h5
      obtain ⟨⟨hc, hns⟩, rfl⟩ := h5
      refine ⟨.inl ⟨rfl, c, rfl, by rw [← hns, ← hc]; simp, by omega, ?_⟩, fun _ => by omega⟩
      rw [h4, ← hns, ← hc]; simp [Rs.and]
theorem cm2_ne {E E1 z : Int} {i j : Nat} {r : Rs (Nat × List Np)} {ns : List Np} (hE : ¬ E = 0) (h : Cm2 (lf E i r) z ns j E1) : ¬ E1 = 0 := by
  unfold lf at h; rw [if_neg hE] at h
  rcases h with ⟨_, h⟩ | ⟨_, _, h, _⟩
  · exact h
  · cases h
section
variable {B : Nat} {ts : List Tp} {w w' : World} {rb : Nat} {tv sv : Value} {E : Int} {o i : Nat} {qs : List Nd}
def errOf (rb : Nat) (w : World) : Int := match w.cell? ⟨rb, 3, none⟩ with
  | some (.int _ n) => n
  | _ => 0
def msr (rb : Nat) (ts : List Tp) (w : World) : Nat := if errOf rb w = 0 then ts.length + 2 - atOf rb w else 0
theorem Ry.msr (h : Ry B ts w rb tv sv E o i qs) : msr rb ts w = if E = 0 then ts.length + 2 - i else 0 := by
  have e : errOf rb w = E := by unfold errOf; rw [h.cell 3]; simp
  unfold Go.Proofs.Ytcidijjbcebcbaa.msr
  rw [e, h.atOf]
/- A method that lays nodes and keeps to p. -/
def PNy (f : Nat) (B : Nat) (ts : List Tp) (rb : Nat) (tv : Value) (o : Nat) (p : PN) : Prop := ∀ (w : World) (sv : Value) (E : Int) (i : Nat) (qs : List Nd), (17 ≤ o → ¬ E = 0) → Ry B ts w rb tv sv E o i qs → Calls Try.prog f #[dp rb] w (Y2 B ts rb tv sv o w (lf E i (p i (qs.map (·.np)))))
set_option maxRecDepth 100000 in
set_option maxHeartbeats 4000000 in
theorem rboth_any {p : PN} (hp : PNy 113 B ts rb tv o p) (hg : GoN ts p) (hO : 17 ≤ o → ¬ E = 0) (h : Ry B ts w rb tv sv E o i qs) : Calls Try.prog 86 #[dp rb] w (Y2 B ts rb tv sv o w (lf E i (chainS ts wAnd 11 p i (qs.map (·.np))))) := by
  have HP := hid hp
  have HG := hid hg
  have HC := hid (hp w sv E i qs hO h)
  have HO := hid hO
  have htl := h.tl
  clear hp hg h hO
  obtain ⟨T, hT⟩ : ∃ T, lf E i (chainS ts wAnd 11 p i (qs.map (·.np))) = T := ⟨_, rfl⟩
  rw [hT]
  have HT := hid hT
  clear hT
  have M1 : Hid True := trivial
  go_enter Try.func86, Try.ntmps86
  go_wp2_with (go_at_call 113; clear M1; refine HC.out.mono ?_; rintro e w1 ⟨hk, z1, E1, j1, sv1, qs1, rfl, hz1, hq, ha, hc⟩; have HK1 := hid hk; have HQ1 := hid hq; have HC1 := hid hc; have HA1 := hid ha; have hz1a := hz1.1; have hz1b := hz1.2; clear hk hq hc ha hz1)
  have HI1 : Hid (InvC ts wAnd 11 p T ts.length z1 j1 (qs1.map (·.np)) E1) := by show InvC _ _ _ _ _ _ _ _ _ _; rw [← HT.out]; exact inv_start HG.out HC1.out
  have HO1 : Hid (17 ≤ o → ¬ E1 = 0) := fun h17 => cm2_ne (HO.out h17) HC1.out
  clear HC1 HT HC HO
  go_loopw [3] (fun u wr => ∃ (f : Nat) (z : Int) (j : Nat) (Ej : Int) (sv' : Value) (qs' : List Nd), Hid (InvC ts wAnd 11 p T f z j (qs'.map (·.np)) Ej) ∧ Hid (17 ≤ o → ¬ Ej = 0) ∧ u = .int .i64 z ∧ -1 ≤ z ∧ z ≤ 1024 ∧ Hid (Ry B ts wr rb tv sv' Ej o j qs') ∧ Hid (Kp (Tq rb sv) w wr) ∧ Hid (At w sv sv')) (fun _ wr => msr rb ts wr)
  case atStart => exact ⟨ts.length, z1, j1, E1, sv1, qs1, HI1.out, HO1.out, rfl, hz1a, hz1b, HQ1.out, HK1.out, HA1.out⟩
  case round =>
    obtain ⟨f, z, j, Ej, sv', qs', HI, HOr, rfl, hza, hzb, HQr, HKr, HAr⟩ := hrel
    clear HI1 HQ1 HK1 HA1 hz1a hz1b HO1
    have HS := hid (rsees_any HQr.out wAnd)
    cases hw : isE Ej ts j wAnd with
    | true =>
      rw [hw] at HS
      have hE := isE_E hw
      subst hE
      have HO16 := hid (show o < 17 from Nat.lt_of_not_le fun h => HOr.out h rfl)
      clear HOr
      obtain ⟨f', a, rfl, HT2⟩ := inv_more HI.out (isE_W hw)
      have HT3 := hid HT2
      have HLt := hid (isE_lt hw)
      clear hw HI HT2
      go_wp2_with (first
        | (go_at_call 87; refine HS.out.mono ?_; rintro e w3 ⟨rfl, hq, hk⟩; have HQ3 := hid hq; have HK3 := hid (HKr.out.next HAr.out hk.r); clear hq hk)
        | (go_at_call 113; refine (HP.out _ _ _ _ _ (fun h17 => absurd HO16.out (by omega)) HQ3.out).mono ?_; rintro e w4 ⟨hk, z4, E4, j4, sv4, qs4, rfl, hz4, hq, ha, hc⟩; have HK4 := hid (HK3.out.next HAr.out hk); have HQ4 := hid hq; have HC4 := hid hc; have HA4 := hid (HAr.out.trans ha HK3.out.size); have hz4a := hz4.1; have hz4b := hz4.2; have HLl : Hid (E4 = 0 → qs4.length + 1 ≤ j4) := (fun e => part_len HG.out hc e HQr.out.ql); clear hk hq hc ha hz4)
        | (go_at_call 88; refine (rlay_any (q := nam2 w4 { n0 with kind := 11, l := [(a : Int), z4] }) (HQ4.out.on ((Below.refl _ _).alloc (Nat.le_refl _) _)) (nam2_in HQ4.out.B_le rfl rfl rfl) HLl.out).mono ?_; rintro e w5 ⟨hk, z5, E5, j5, sv5, qs5, rfl, hz5, hq, ha, hc⟩; have HQ5 := hid hq; have HC5 := hid hc; have HK5 := hid (HK4.out.next HA4.out ((Kp.alloc _ _ _).trans hk)); have HA5 := hid (HA4.out.trans ha (Nat.le_trans HK4.out.size (by simp))); have hz5a := hz5.1; have hz5b := hz5.2; clear hq ha hk hc hz5))
      have HI5 := inv_next HG.out HT3.out (by have := HC4.out; simp only [if_true] at this; exact this) HC5.out HLt.out
      go_roundw
      case rel => exact ⟨f', z5, j5, E5, sv5, qs5, HI5.1, fun h17 => absurd HO16.out (by omega), rfl, hz5a, hz5b, HQ5.out, HK5.out, HA5.out⟩
      case measure =>
        rw [HQ5.out.msr, HQr.out.msr, if_pos rfl]
        split
        · have := HI5.2 (by assumption); have := HQ5.out.il; omega
        · have := HLt.out; omega
    | false =>
      rw [hw] at HS
      have HM2 : Hid (Cm2 T z (qs'.map (·.np)) j Ej) := inv_end HI.out (fun e => isE_false hw e)
      clear hw HI
      go_wp2_with (go_at_call 87; refine HS.out.mono ?_; rintro e w3 ⟨rfl, hq, hk⟩; have HQ3 := hid hq; have HK3 := hid (HKr.out.next HAr.out hk.r); clear hq hk)
      go_ret
      exact ⟨HK3.out, z, Ej, j, sv', qs', rfl, ⟨hza, hzb⟩, HQ3.out, HAr.out, HM2.out⟩
set_option maxRecDepth 100000 in
set_option maxHeartbeats 4000000 in
theorem rcond_any {p : PN} (hp : PNy 86 B ts rb tv o p) (hg : GoN ts p) (hO : 17 ≤ o → ¬ E = 0) (h : Ry B ts w rb tv sv E o i qs) : Calls Try.prog 52 #[dp rb] w (Y2 B ts rb tv sv o w (lf E i (chainS ts wOr 12 p i (qs.map (·.np))))) := by
  have HP := hid hp
  have HG := hid hg
  have HC := hid (hp w sv E i qs hO h)
  have HO := hid hO
  have htl := h.tl
  clear hp hg h hO
  obtain ⟨T, hT⟩ : ∃ T, lf E i (chainS ts wOr 12 p i (qs.map (·.np))) = T := ⟨_, rfl⟩
  rw [hT]
  have HT := hid hT
  clear hT
  have M1 : Hid True := trivial
  go_enter Try.func52, Try.ntmps52
  go_wp2_with (go_at_call 86; clear M1; refine HC.out.mono ?_; rintro e w1 ⟨hk, z1, E1, j1, sv1, qs1, rfl, hz1, hq, ha, hc⟩; have HK1 := hid hk; have HQ1 := hid hq; have HC1 := hid hc; have HA1 := hid ha; have hz1a := hz1.1; have hz1b := hz1.2; clear hk hq hc ha hz1)
  have HI1 : Hid (InvC ts wOr 12 p T ts.length z1 j1 (qs1.map (·.np)) E1) := by show InvC _ _ _ _ _ _ _ _ _ _; rw [← HT.out]; exact inv_start HG.out HC1.out
  have HO1 : Hid (17 ≤ o → ¬ E1 = 0) := fun h17 => cm2_ne (HO.out h17) HC1.out
  clear HC1 HT HC HO
  go_loopw [3] (fun u wr => ∃ (f : Nat) (z : Int) (j : Nat) (Ej : Int) (sv' : Value) (qs' : List Nd), Hid (InvC ts wOr 12 p T f z j (qs'.map (·.np)) Ej) ∧ Hid (17 ≤ o → ¬ Ej = 0) ∧ u = .int .i64 z ∧ -1 ≤ z ∧ z ≤ 1024 ∧ Hid (Ry B ts wr rb tv sv' Ej o j qs') ∧ Hid (Kp (Tq rb sv) w wr) ∧ Hid (At w sv sv')) (fun _ wr => msr rb ts wr)
  case atStart => exact ⟨ts.length, z1, j1, E1, sv1, qs1, HI1.out, HO1.out, rfl, hz1a, hz1b, HQ1.out, HK1.out, HA1.out⟩
  case round =>
    obtain ⟨f, z, j, Ej, sv', qs', HI, HOr, rfl, hza, hzb, HQr, HKr, HAr⟩ := hrel
    clear HI1 HQ1 HK1 HA1 hz1a hz1b HO1
    have HS := hid (rsees_any HQr.out wOr)
    cases hw : isE Ej ts j wOr with
    | true =>
      rw [hw] at HS
      have hE := isE_E hw
      subst hE
      have HO16 := hid (show o < 17 from Nat.lt_of_not_le fun h => HOr.out h rfl)
      clear HOr
      obtain ⟨f', a, rfl, HT2⟩ := inv_more HI.out (isE_W hw)
      have HT3 := hid HT2
      have HLt := hid (isE_lt hw)
      clear hw HI HT2
      go_wp2_with (first
        | (go_at_call 87; refine HS.out.mono ?_; rintro e w3 ⟨rfl, hq, hk⟩; have HQ3 := hid hq; have HK3 := hid (HKr.out.next HAr.out hk.r); clear hq hk)
        | (go_at_call 86; refine (HP.out _ _ _ _ _ (fun h17 => absurd HO16.out (by omega)) HQ3.out).mono ?_; rintro e w4 ⟨hk, z4, E4, j4, sv4, qs4, rfl, hz4, hq, ha, hc⟩; have HK4 := hid (HK3.out.next HAr.out hk); have HQ4 := hid hq; have HC4 := hid hc; have HA4 := hid (HAr.out.trans ha HK3.out.size); have hz4a := hz4.1; have hz4b := hz4.2; have HLl : Hid (E4 = 0 → qs4.length + 1 ≤ j4) := (fun e => part_len HG.out hc e HQr.out.ql); clear hk hq hc ha hz4)
        | (go_at_call 88; refine (rlay_any (q := nam2 w4 { n0 with kind := 12, l := [(a : Int), z4] }) (HQ4.out.on ((Below.refl _ _).alloc (Nat.le_refl _) _)) (nam2_in HQ4.out.B_le rfl rfl rfl) HLl.out).mono ?_; rintro e w5 ⟨hk, z5, E5, j5, sv5, qs5, rfl, hz5, hq, ha, hc⟩; have HQ5 := hid hq; have HC5 := hid hc; have HK5 := hid (HK4.out.next HA4.out ((Kp.alloc _ _ _).trans hk)); have HA5 := hid (HA4.out.trans ha (Nat.le_trans HK4.out.size (by simp))); have hz5a := hz5.1; have hz5b := hz5.2; clear hq ha hk hc hz5))
      have HI5 := inv_next HG.out HT3.out (by have := HC4.out; simp only [if_true] at this; exact this) HC5.out HLt.out
      go_roundw
      case rel => exact ⟨f', z5, j5, E5, sv5, qs5, HI5.1, fun h17 => absurd HO16.out (by omega), rfl, hz5a, hz5b, HQ5.out, HK5.out, HA5.out⟩
      case measure =>
        rw [HQ5.out.msr, HQr.out.msr, if_pos rfl]
        split
        · have := HI5.2 (by assumption); have := HQ5.out.il; omega
        · have := HLt.out; omega
    | false =>
      rw [hw] at HS
      have HM2 : Hid (Cm2 T z (qs'.map (·.np)) j Ej) := inv_end HI.out (fun e => isE_false hw e)
      clear hw HI
      go_wp2_with (go_at_call 87; refine HS.out.mono ?_; rintro e w3 ⟨rfl, hq, hk⟩; have HQ3 := hid hq; have HK3 := hid (HKr.out.next HAr.out hk.r); clear hq hk)
      go_ret
      exact ⟨HK3.out, z, Ej, j, sv', qs', rfl, ⟨hza, hzb⟩, HQ3.out, HAr.out, HM2.out⟩
end
end Go.Proofs.Ytcidijjbcebcbaa
namespace Go.Proofs.Ytcidijjbcebcbaa
open Go.RowKit Go.Joins

section
variable {B : Nat} {ts : List Tp} {w w' : World} {rb : Nat} {tv sv : Value} {E : Int} {o i : Nat} {qs : List Nd}
set_option maxRecDepth 100000 in
set_option maxHeartbeats 1000000 in
theorem rnot_err (h : Ry B ts w rb tv sv E o i qs) (hE : ¬ E = 0) : Calls Try.prog 113 #[dp rb] w fun e w' => e = .returned (.int .i64 0) ∧ w' = w := by
  have k0 := h.cell
  have bE : (E != 0) = true := by simp [hE]
  clear h hE
  go_enter Try.func113, Try.ntmps113
  go_wp2_with fail
  go_ret
  exact ⟨rfl, rfl⟩
/- What may stand within, of the reference's. -/
def DeepY (F : Nat) (B : Nat) (ts : List Tp) (rb : Nat) (tv : Value) (o : Nat) : Option PN → Prop
  | none => o = 16
  | some p => o < 16 ∧ PNy F B ts rb tv (o + 1) p ∧ GoN ts p
theorem not_fin {ts : List Tp} {p : PN} {i j j5 : Nat} {z z5 E E5 : Int} {ns : List Np} {qs1 qs5 : List Nd} (hw : isW ts i wNot = true) (h : Cm2 (lf 0 (i + 1) (p (i + 1) ns)) z (qs1.map (·.np)) j E) (h5 : Cm2 (lf E j (.ok (qs1.length, qs1.map (·.np) ++ [{ n0 with kind := 13, l := [z] }]) j)) z5 (qs5.map (·.np)) j5 E5) : Cm2 (lf 0 i (notB ts (some p) i ns)) z5 (qs5.map (·.np)) j5 E5 := by
  have e0 : lf 0 i (notB ts (some p) i ns) = (p (i + 1) ns).and fun r j => .ok (r.2.length, r.2 ++ [{ n0 with kind := 13, l := [(r.1 : Int)] }]) j := by
    unfold lf notB; rw [if_pos rfl, if_pos hw]
  rw [e0]
  rcases h with ⟨h, hn⟩ | ⟨b, rfl, h, rfl⟩
  · unfold lf at h h5; rw [if_pos rfl] at h; rw [if_neg hn] at h5
    rw [h]; exact h5
  · unfold lf at h h5; rw [if_pos rfl] at h h5
    rw [h]; simpa [Rs.and] using h5
end
end Go.Proofs.Ytcidijjbcebcbaa
namespace Go.Proofs.Ytcidijjbcebcbaa
open Go.RowKit Go.Joins

section
variable {B : Nat} {ts : List Tp} {w w' : World} {rb : Nat} {tv sv : Value} {E : Int} {o i : Nat} {qs : List Nd}
theorem rdeeper_long (h : Ry B ts w rb tv sv 0 o (i + 1) qs) (hl : qs.length + 1 ≤ i + 1) (ho : o = 16) : Calls Try.prog 132 #[dp rb] w fun e w' => e = .returned (.tuple #[]) ∧ Kp (fun k => k = rb) w w' ∧ Ry B ts w' rb tv sv 2 (o + 1) i qs := by
  refine (rdeeper_any h hl (by omega)).mono ?_
  rintro e w2 ⟨rfl, hk, ⟨he, hq⟩ | ⟨-, ho2, hq⟩ | ⟨-, ho2, hq⟩⟩
  · exact absurd rfl he
  · exact ⟨rfl, hk, hq⟩
  · omega
theorem rdeeper_ok (h : Ry B ts w rb tv sv 0 o (i + 1) qs) (hl : qs.length + 1 ≤ i + 1) (ho : o < 16) : Calls Try.prog 132 #[dp rb] w fun e w' => e = .returned (.tuple #[]) ∧ Kp (fun k => k = rb) w w' ∧ Ry B ts w' rb tv sv 0 (o + 1) (i + 1) qs := by
  refine (rdeeper_any h hl (by omega)).mono ?_
  rintro e w2 ⟨rfl, hk, ⟨he, hq⟩ | ⟨-, ho2, hq⟩ | ⟨-, ho2, hq⟩⟩
  · exact absurd rfl he
  · omega
  · exact ⟨rfl, hk, hq⟩
theorem part_len' {p : PN} {j j4 : Nat} {z4 E4 : Int} {qs' qs4 : List Nd} (hg : GoN ts p) (h : Cm2 (lf 0 (j + 1) (p (j + 1) (qs'.map (·.np)))) z4 (qs4.map (·.np)) j4 E4) (hE : E4 = 0) (hl : qs'.length ≤ j) : qs4.length + 1 ≤ j4 := part_len hg (by simpa using h) hE hl
set_option maxRecDepth 100000 in
set_option maxHeartbeats 400000 in
theorem rnot_not0 (ho : o = 16) (h : Ry B ts w rb tv sv 0 o i qs) (hw : isW ts i wNot = true) : Calls Try.prog 113 #[dp rb] w (Y2 B ts rb tv sv o w (lf 0 i (notB ts none i (qs.map (·.np))))) := by
  have k0 := h.cell
  have HQL := hid h.ql
  have HW := hid hw
  have hs := rsees_any h wNot
  have e1 : isE 0 ts i wNot = true := by unfold isE; rw [hw]; rfl
  rw [e1] at hs
  have HS := hid hs
  have hk0 : ((o : Int) + 1) - 1 = o := by omega
  have o0 : (0 : Int) ≤ o := by omega
  have o1 : (o : Int) ≤ 17 := by have := h.ol; omega
  have HO16 := hid ho
  generalize hT : lf 0 i (notB ts none i (qs.map (·.np))) = T at *
  have HTt := hid hT
  clear h hw hs e1 hT ho
  go_enter Try.func113, Try.ntmps113
  go_upto_region 7 with (first
    | (go_at_call 87; refine HS.out.mono ?_; rintro e w1 ⟨rfl, hq, hk⟩; simp only [if_true] at hq; have HQ1 := hid hq; have HK1 := hid hk; clear hq hk)
    | (go_at_call 132; refine (rdeeper_long HQ1.out (by have := HQL.out; omega) HO16.out).mono ?_; rintro e w2 ⟨rfl, hk, hq⟩; have HQ2 := hid hq; have HK2 := hid (HK1.out.trans hk); have k2 := hq.cell; have z2 := hq.frozen; simp only [Int.natCast_add, Int.cast_ofNat_Int] at k2; clear hq hk)
    | (go_at_call 113; refine (rnot_err HQ2.out (by decide)).mono ?_; rintro e w3 ⟨rfl, he⟩; replace he := he.symm; subst he))
  have HQ6 := hid (Ry.less HQ2.out)
  have HK6 := hid (HK2.out.trans (Kp.set (T := fun k => k = rb) (w := w2) (b := rb) (i := 4) rfl (.int .i64 (o : Int))))
  clear k2 z2 k0
  generalize w2.setCell ⟨rb, 4, none⟩ (.int .i64 (o : Int)) = W6 at *
  go_wp2_with (go_at_call 88; refine (rlay_any (q := nam1 W6 { n0 with kind := 13, l := [0] }) (HQ6.out.on ((Below.refl _ _).alloc (Nat.le_refl _) _)) (nam1_in HQ6.out.B_le rfl rfl rfl) (fun e => absurd e (by decide))).mono ?_; rintro e w5 ⟨hk, z5, E5, j5, sv5, qs5, rfl, hz5, hq, ha, hc⟩; have HQ5 := hid hq; have HC5 := hid hc; have HK5 := hid (HK6.out.r.trans ((Kp.alloc (Tq rb sv) W6 (.cells #[.int .i64 0] 3)).trans hk)); have HA5 := hid ((At.refl w sv).trans ha (Nat.le_trans HK6.out.size (by simp))); have HZ5 := hid hz5; clear hq ha hk hc hz5)
  go_ret
  refine ⟨HK5.out, z5, E5, j5, sv5, qs5, rfl, HZ5.out, HQ5.out, HA5.out, ?_⟩
  have e0 : lf 0 i (notB ts none i (qs.map (·.np))) = .bad i 2 := by unfold lf notB; rw [if_pos rfl, if_pos HW.out]
  rw [← HTt.out, e0]
  have h5 := HC5.out
  unfold lf at h5; rw [if_neg (by decide)] at h5
  exact h5
set_option maxRecDepth 100000 in
set_option maxHeartbeats 400000 in
theorem rnot_not1 {p : PN} (ho : o < 16) (hp : PNy 113 B ts rb tv (o + 1) p) (hg : GoN ts p) (h : Ry B ts w rb tv sv 0 o i qs) (hw : isW ts i wNot = true) : Calls Try.prog 113 #[dp rb] w (Y2 B ts rb tv sv o w (lf 0 i (notB ts (some p) i (qs.map (·.np))))) := by
  have k0 := h.cell
  have HQL := hid h.ql
  have HW := hid hw
  have HP := hid hp
  have HG := hid hg
  have hs := rsees_any h wNot
  have e1 : isE 0 ts i wNot = true := by unfold isE; rw [hw]; rfl
  rw [e1] at hs
  have HS := hid hs
  have hk0 : ((o : Int) + 1) - 1 = o := by omega
  have o0 : (0 : Int) ≤ o := by omega
  have o1 : (o : Int) ≤ 17 := by have := h.ol; omega
  have HO16 := hid ho
  generalize hT : lf 0 i (notB ts (some p) i (qs.map (·.np))) = T at *
  have HTt := hid hT
  clear h hw hs e1 hT ho hp hg
  go_enter Try.func113, Try.ntmps113
  go_upto_region 7 with (first
    | (go_at_call 87; refine HS.out.mono ?_; rintro e w1 ⟨rfl, hq, hk⟩; simp only [if_true] at hq; have HQ1 := hid hq; have HK1 := hid hk; clear hq hk)
    | (go_at_call 132; refine (rdeeper_ok HQ1.out (by have := HQL.out; omega) HO16.out).mono ?_; rintro e w2 ⟨rfl, hk, hq⟩; have HQ2 := hid hq; have HK2 := hid (HK1.out.trans hk); clear hq hk)
    | (go_at_call 113; refine (HP.out _ _ _ _ _ (fun h17 => absurd HO16.out (by omega)) HQ2.out).mono ?_; rintro e w3 ⟨hk, z3, E3, j3, sv3, qs3, rfl, hz3, hq, ha, hc⟩; have HK3 := hid (HK2.out.r.next (At.refl w sv) hk); have HQ3 := hid hq; have HC3 := hid hc; have HA3 := hid ((At.refl w sv).trans ha HK2.out.size); have hz3a := hz3.1; have hz3b := hz3.2; have HLl : Hid (E3 = 0 → qs3.length + 1 ≤ j3) := (fun e => part_len' HG.out hc e HQL.out); have k2 := hq.cell; have z2 := hq.frozen; simp only [Int.natCast_add, Int.cast_ofNat_Int] at k2; clear hk hq hc ha hz3))
  have HQ6 := hid (Ry.less HQ3.out)
  have HK6 := hid (HK3.out.next HA3.out (Kp.set (T := fun k => k = rb) (w := w3) (b := rb) (i := 4) rfl (.int .i64 (o : Int))).r)
  clear k2 z2 k0
  generalize w3.setCell ⟨rb, 4, none⟩ (.int .i64 (o : Int)) = W6 at *
  go_wp2_with (go_at_call 88; refine (rlay_any (q := nam1 W6 { n0 with kind := 13, l := [z3] }) (HQ6.out.on ((Below.refl _ _).alloc (Nat.le_refl _) _)) (nam1_in HQ6.out.B_le rfl rfl rfl) HLl.out).mono ?_; rintro e w5 ⟨hk, z5, E5, j5, sv5, qs5, rfl, hz5, hq, ha, hc⟩; have HQ5 := hid hq; have HC5 := hid hc; have HK5 := hid (HK6.out.next HA3.out ((Kp.alloc (Tq rb sv3) W6 (.cells #[.int .i64 z3] 3)).trans hk)); have HA5 := hid (HA3.out.trans ha (Nat.le_trans HK6.out.size (by simp))); have HZ5 := hid hz5; clear hq ha hk hc hz5)
  go_ret
  refine ⟨HK5.out, z5, E5, j5, sv5, qs5, rfl, HZ5.out, HQ5.out, HA5.out, ?_⟩
  rw [← HTt.out]
  exact not_fin HW.out HC3.out HC5.out
theorem rnot_not {d : Option PN} (hd : DeepY 113 B ts rb tv o d) (h : Ry B ts w rb tv sv 0 o i qs) (hw : isW ts i wNot = true) : Calls Try.prog 113 #[dp rb] w (Y2 B ts rb tv sv o w (lf 0 i (notB ts d i (qs.map (·.np))))) := by
  cases d with
  | none => exact rnot_not0 hd h hw
  | some p => exact rnot_not1 hd.1 hd.2.1 hd.2.2 h hw
end
end Go.Proofs.Ytcidijjbcebcbaa
