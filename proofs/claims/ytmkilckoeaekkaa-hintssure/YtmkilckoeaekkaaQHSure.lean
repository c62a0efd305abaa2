/-
  What HintsSure returns, for any hosts.
-/
import Derived.Test.YtmkilckoeaekkaaQSMath
namespace Go.Proofs.Ytmkilckoeaekkaa
open Go.RowKit Go.Sort Go.Maps Go.Shelf

set_option maxRecDepth 100000 in
set_option maxHeartbeats 8000000 in
theorem sure_any {w : World} {av : Value} {A : List ByteArray} {wh a0 a1 : Int} (ha : Ho w.heap.size w av A) (hw : -9223372036854775808 ≤ wh ∧ wh ≤ 9223372036854775807) (h0 : -9223372036854775808 ≤ a0 ∧ a0 ≤ 9223372036854775807) (h1 : -9223372036854775808 ≤ a1 ∧ a1 ≤ 9223372036854775807) :
    Calls Try.prog 4 #[av, .int .i64 wh, .agg #[.int .i64 a0, .int .i64 a1]] w fun e w' => e = .returned (.bool true) ∧ Below w.heap.size w w' := by
  have HA := hid ha
  obtain ⟨pa, ca, rfl, ha1, ha2⟩ := ha.sl.form
  have HW := hid hw
  have H0 := hid h0
  have H1 := hid h1
  clear ha hw h0 h1
  unfold maxLen at ha2
  generalize hna : A.length = na at *
  have HNa := hid hna
  clear hna
  have HBx0 : Hid ((w.alloc (.cells #[.int .i64 a0, .int .i64 a1] 53)).heap[w.heap.size]? = some (.cells #[.int .i64 a0, .int .i64 a1] 53)) := alloc_block _ _
  have HF0 : Hid (Fx w [] (w.alloc (.cells #[.int .i64 a0, .int .i64 a1] 53))) := (Fx.start w).on ((Below.refl _ _).alloc (Nat.le_refl _) _)
  go_enter Try.func4, Try.ntmps4
  go_upto_region 1 with fail
  generalize w.alloc (.cells #[.int .i64 a0, .int .i64 a1] 53) = W0 at *
  go_upto_region 6 with (first
    | (go_at_call 6; refine (shown_any _).mono ?_; rintro e w1 ⟨rfl, hb⟩; have HB1 := hid (block_on HBx0.out hb); have HF1 := hid (HF0.out.on hb); clear hb; have M1 : Hid True := trivial)
    | (go_at_call 7; clear M1; refine (fx_new HF1.out).mono ?_; rintro e w2 ⟨x, rfl, hf, hb⟩; have HB2 := hid (block_on HB1.out hb); have HF2 := hid hf; clear hf hb)
    | (go_at_call 7; refine (fx_new HF2.out).mono ?_; rintro e w3 ⟨y, rfl, hf, hb⟩; have HB3 := hid (block_on HB2.out hb); have HF3 : Hid (Fx w [⟨0, x, Ix.none⟩, ⟨0, y, Ix.none⟩] w3) := hf; clear hf hb))
  clear HB1 HB2 HF0 HF1 HF2 HBx0
  obtain ⟨n, hn⟩ : ∃ n, min na 40 = n := ⟨_, rfl⟩
  have hnn : n ≤ na ∧ n ≤ 40 := by omega
  have HMn := hid hn
  clear hn
  go_cut [10] from 29 to 31 (fun nv wx => nv = .int .i64 (n : Int) ∧ wx = w3)
  case first =>
    by_cases h40 : na < 40
    · have e0 : n = na := by have := HMn.out; omega
      subst e0
      go_wp2
      all_goals
        go_meet
        exact ⟨rfl, rfl⟩
    · have e0 : n = 40 := by have := HMn.out; omega
      subst e0
      go_wp2
      all_goals
        go_meet
        exact ⟨by first | rfl | (congr 1; omega), rfl⟩
  case rest =>
    obtain ⟨rfl, hwc⟩ := hcut
    replace hwc := hwc.symm
    subst hwc
    go_wp2_with fail
    go_loopw [11] (fun i wr => ∃ k : Nat, k ≤ n ∧ i = .int .i64 k ∧ Hid (wr.heap[w.heap.size]? = some (.cells #[.int .i64 a0, .int .i64 a1] 53)) ∧ Hid (Fx w [⟨3 * k, x, (xo A k).1⟩, ⟨3 * k, y, (xo A k).2⟩] wr)) (fun i _ => n - (intOf i).toNat)
    case atStart => exact ⟨0, by omega, rfl, HB3, HF3⟩
    case round =>
      clear HB3 HF3
      obtain ⟨k, hk, rfl, HB, HFx⟩ := hrel
      by_cases hlt : k < n
      · obtain ⟨s, hs⟩ : ∃ s, A[k]? = some s := ⟨A[k]'(by rw [HNa.out]; omega), List.getElem?_eq_getElem _⟩
        obtain ⟨bs, os, rfl, hbs, c0, hss⟩ := (HA.out.bel HFx.out.bel).at hs
        have hS0 : E1 bs (os + k) (.string s) wr := c0
        have HSs := hid hss
        have HBs0 := hid hbs
        have HAs := hid hs
        clear hs c0 hss hbs
        have i1 : (0 : Int) ≤ (k : Int) := by omega
        have i2 : (k : Int) < (na : Int) := by omega
        by_cases hpar : k % 2 = 0
        · have hpi : (k : Int) % 2 = 0 := by omega
          have hpt : (k : Int).tmod 2 = 0 := by rw [Int.tmod_eq_emod_of_nonneg (by omega)]; exact hpi
          have HE := hid (xo_even HAs.out hpar)
          go_upto_region 11 with fail
          go_region_held3 (E1 bs (os + k) (.string s)) (((repeat (first | (with_reducible refine e1D ?_))); (with_reducible assumption)))
            (first
            | (go_at_call 20; refine (load_any _).mono ?_; rintro e w2 ⟨ks, vs, rfl, h1, h2, hb⟩; have S1 := hid h1; have S2 := hid h2; have HB1 := hid hb; have hS1 := e1On (e1D hS0) hb; clear h1 h2 hb)
            | (go_at_call 21; refine (point_any _ _).mono ?_; rintro e w3 ⟨pk, pv, rfl, h1, h2, hb⟩; have S3 := hid h1; have S4 := hid h2; have HB2 := hid hb; have hS2 := e1On hS1 hb; clear h1 h2 hb)
            | (go_at_call 9; refine (fx_add (w := wr.drew) (i := 0) (HFx.out.on (Below.refl _ _).drew) rfl (by omega) HSs.out HB1.out HB2.out S1.out S2.out S3.out S4.out).mono ?_; rintro e w4 ⟨rfl, hf, hkc, hb4⟩; have HF4 := hid hf; have HK4 := hid hkc; have hS4 : E1 bs (os + k) (.string s) w4 := (hb4.cell (p := ⟨bs, os + k, none⟩) HBs0.out).trans hS0; clear hf hkc hb4))
          clear hS4 hS2 hS1 hS0
          go_wp2
          go_roundw
          case rel =>
            refine ⟨k + 1, by omega, by go_num, HK4.out _ _ _ _ HB.out (by decide), ?_⟩
            show Fx _ _ _
            rw [HE.out]
            exact (show Fx w [⟨3 * k + 3, x, addH (xo A k).1 s⟩, ⟨3 * k, y, (xo A k).2⟩] w4 from HF4.out).mono2 (by omega) (by omega)
          case measure => simp [intOf]; omega
        · have hpi : ¬ (k : Int) % 2 = 0 := by omega
          have hpt : ¬ (k : Int).tmod 2 = 0 := by rw [Int.tmod_eq_emod_of_nonneg (by omega)]; exact hpi
          have HE := hid (xo_odd HAs.out hpar)
          go_upto_region 12 with fail
          go_region_held3 (E1 bs (os + k) (.string s)) (((repeat (first | (with_reducible refine e1D ?_))); (with_reducible assumption)))
            (first
            | (go_at_call 20; refine (load_any _).mono ?_; rintro e w2 ⟨ks, vs, rfl, h1, h2, hb⟩; have S1 := hid h1; have S2 := hid h2; have HB1 := hid hb; have hS1 := e1On (e1D hS0) hb; clear h1 h2 hb)
            | (go_at_call 21; refine (point_any _ _).mono ?_; rintro e w3 ⟨pk, pv, rfl, h1, h2, hb⟩; have S3 := hid h1; have S4 := hid h2; have HB2 := hid hb; have hS2 := e1On hS1 hb; clear h1 h2 hb)
            | (go_at_call 9; refine (fx_add (w := wr.drew) (i := 1) (HFx.out.on (Below.refl _ _).drew) rfl (by omega) HSs.out HB1.out HB2.out S1.out S2.out S3.out S4.out).mono ?_; rintro e w4 ⟨rfl, hf, hkc, hb4⟩; have HF4 := hid hf; have HK4 := hid hkc; have hS4 : E1 bs (os + k) (.string s) w4 := (hb4.cell (p := ⟨bs, os + k, none⟩) HBs0.out).trans hS0; clear hf hkc hb4))
          clear hS4 hS2 hS1 hS0
          go_wp2
          go_roundw
          case rel =>
            refine ⟨k + 1, by omega, by go_num, HK4.out _ _ _ _ HB.out (by decide), ?_⟩
            show Fx _ _ _
            rw [HE.out]
            exact (show Fx w [⟨3 * k, x, (xo A k).1⟩, ⟨3 * k + 3, y, addH (xo A k).2 s⟩] w4 from HF4.out).mono2 (by omega) (by omega)
          case measure => simp [intOf]; omega
      · obtain rfl : k = n := by omega
        have hJb : ∀ j s, A[j]? = some s → j < k → wit (wholeB s) (((xo A k).1.join (xo A k).2).bits loadB hostB) = true := fun j s hs hj => hb_has hs k hj (by rw [HNa.out]; omega)
        have hJs : 0 < k → ((xo A k).1.join (xo A k).2).seen loadB = true := fun h => xo_seen k h (by rw [HNa.out]; omega)
        have hJ0 : k = 0 → ((xo A k).1.join (xo A k).2).seen loadB = false := fun h => by subst h; rfl
        have HJb := hid hJb
        have HJs := hid hJs
        have HJ0 := hid hJ0
        clear hJb hJs hJ0
        go_upto_region 14 with (first
          | (go_at_call 11; refine (fx_join (i := 0) (j := 1) HFx.out rfl rfl (by omega) (by unfold maxLen; omega)).mono ?_; rintro e w5 ⟨rfl, hf, hkc, hb⟩; have HF5 : Hid (Fx w [⟨3 * k + 3 * k, x, (xo A k).1.join (xo A k).2⟩, ⟨3 * k, y, (xo A k).2⟩] w5) := hf; have HB5 := hid (hkc _ _ _ _ HB.out (by decide)); clear HFx hf hb hkc HB))
        generalize (xo A k).1.join (xo A k).2 = J at *
        by_cases hk0 : k = 0
        · subst hk0
          have HSe := hid (HJ0.out rfl)
          have HMi : Hid (might KK J loadB (qs [(condN 15 0 ⟨#[]⟩, [])]) 0 = false) := by show _ = _; unfold might; rw [HSe.out]; rfl
          go_wp2_with (first
            | (go_at_call 14; refine (fx_seen (i := 0) HF5.out rfl (by decide) HSe.out).mono ?_; rintro e w6 ⟨rfl, rfl⟩)
            | (go_at_call 22; refine (cond_any _ _ (by decide) _).mono ?_; rintro e w7 ⟨g, rfl, -, -, hq, hb⟩; have HQ := hid hq; replace HF5 := hid (HF5.out.on hb); clear hq hb)
            | (go_at_call 18; refine (fx_might (i := 0) HF5.out rfl HQ.out (by decide) (by omega) HMi.out).mono ?_; rintro e w8 ⟨rfl, hf, hb⟩; replace HF5 := hid hf; clear hf hb))
          go_ret
          exact ⟨rfl, HF5.out.bel⟩
        · have hkp : 0 < k := by omega
          have HSe := hid (HJs.out hkp)
          obtain ⟨j, hj1, hj2⟩ := kindN_nat (c := wh) (n := (k : Int)) (by omega)
          obtain ⟨s, hs⟩ : ∃ s, A[j]? = some s := ⟨A[j]'(by rw [HNa.out]; omega), List.getElem?_eq_getElem _⟩
          have HWit := hid (HJb.out j s hs (by omega))
          obtain ⟨bs, os, rfl, hbs, c0, hss⟩ := (HA.out.bel HF5.out.bel).at hs
          obtain ⟨a, ha1', ha2'⟩ := kindN_nat (c := a0) (n := (s.size : Int) + 1) (by omega)
          obtain ⟨c, hc1, hc2⟩ := kindN_nat (c := a1) (n := (s.size : Int) - (a : Int) + 1) (by omega)
          have HK1 := hid hj1
          have HK2 := hid ha1'
          have HK3 := hid hc1
          have HSs := hid hss
          have hsI : (s.size : Int) ≤ 562949953421312 := by omega
          have hja : (j : Int) < (na : Int) := by omega
          have kb := block_cell HB5.out
          have lb := lt_of_block HB5.out
          clear hs hbs HJb HJs HJ0 hj1 ha1' hc1 hss
          have M1 : Hid True := trivial
          have M2 : Hid True := trivial
          go_upto_region 20 with (first
            | (go_at_call 8; clear M1; refine (kind_is HW.out (by omega) HK1.out _).mono ?_; rintro e w6 ⟨rfl, rfl⟩)
            | (go_at_call 8; clear M2; refine (kind_is H0.out (by omega) HK2.out _).mono ?_; rintro e w6 ⟨rfl, rfl⟩)
            | (go_at_call 8; refine (kind_is H1.out (by omega) HK3.out _).mono ?_; rintro e w6 ⟨rfl, rfl⟩)
            | (go_at_call 22; refine (cond_any 14 1 HSs.out _).mono ?_; rintro e w7 ⟨g0, rfl, hbk, hg, -, hb⟩; have hg0 := Nat.le_trans HF5.out.bel.size hg; have HF7 := hid (HF5.out.on hb); have HBk := hid hbk; clear hbk hb hg))
          obtain ⟨p, hp⟩ : ∃ p, s.extract a (a + c) = p := ⟨_, rfl⟩
          have hsl : ∀ w : World, (Instr.slice 9 (.string s) (some (.int .i64 (a : Int))) (some (.int .i64 ((a : Int) + (c : Int)))) none).run Try.prog w = .ok (.string p) w := slice_str rfl (by omega) (Nat.le_add_right a c) (by omega) hp
          have hps : p.size ≤ 562949953421312 := by rw [← hp]; simp [ByteArray.size_extract]; omega
          have HPs := hid hps
          have HWp : Hid (wit (partB p) (J.bits loadB hostB) = true) := by
            have h1 : wit (partB p) (partB s) = true := by rw [← hp]; exact part_is s (Nat.le_add_right a c)
            have h2 : wit (partB s) (wholeB s) = true := whole_wit s
            exact wit_trans (wit_trans h1 h2) HWit.out
          have HF8 := hid (HF7.out.on ((Below.refl _ _).alloc (Nat.le_refl _) (.cells #[.slice (some ⟨g0, 0, none⟩) 1 1] 26)))
          have HBx : Hid ((w7.alloc (.cells #[.slice (some ⟨g0, 0, none⟩) 1 1] 26)).heap[w7.heap.size]? = some (.cells #[.slice (some ⟨g0, 0, none⟩) 1 1] 26)) := alloc_block _ _
          have HBk8 := hid ((Kp.alloc (fun _ => False) w7 (.cells #[.slice (some ⟨g0, 0, none⟩) 1 1] 26)).blk HBk.out id)
          have HN7 := hid HF7.out.bel.size
          clear hp hps HBk HF7
          generalize w7.alloc (.cells #[.slice (some ⟨g0, 0, none⟩) 1 1] 26) = W8 at *
          generalize w7.heap.size = nb at *
          have hfd := field26
          refine wp_region_held_drew (S := fun _ => True) (by kernel_rfl) trivial (fun hT => ?_)
          replace HBx : Hid (W8.drew.heap[nb]? = some (.cells #[.slice (some ⟨g0, 0, none⟩) 1 1] 26)) := HBx.out
          replace HBk8 : Hid (W8.drew.heap[g0]? = some (.cells (condN 14 1 s).cells.toArray 63)) := HBk8.out
          replace HF8 := hid (HF8.out.on (Below.refl _ _).drew)
          generalize W8.drew = W9 at *
          refine wpAnyH_take (i := 0) (v := ?_) rfl (by kernel_rfl) (by kernel_rfl) (by kernel_rfl) (fun _ _ _ h => h) (Or.inl ⟨by rfl, ?_⟩) hT ?_
          rotate_left
          · intro w hSw
            go_simp
            try (with_reducible rfl)
          try go_frame
          refine wpAnyH_take (i := 2) (v := ?_) rfl (by kernel_rfl) (by kernel_rfl) (by kernel_rfl) (fun _ _ _ h => h) (Or.inl ⟨by rfl, ?_⟩) hT ?_
          rotate_left
          · intro w hSw
            go_simp
            try (with_reducible rfl)
          try go_frame
          refine wpAnyH_take (i := 3) (v := ?_) rfl (by kernel_rfl) (by kernel_rfl) (by kernel_rfl) (fun _ _ _ h => h) (Or.inl ⟨by rfl, ?_⟩) hT ?_
          rotate_left
          · intro w hSw
            go_simp
            try (with_reducible rfl)
          try go_frame
          refine wpAnyH_take (i := 4) (v := ?_) rfl (by kernel_rfl) (by kernel_rfl) (by kernel_rfl) (fun _ _ _ h => h) (Or.inl ⟨by rfl, ?_⟩) hT ?_
          rotate_left
          · intro w hSw
            go_simp
            try (with_reducible rfl)
          try go_frame
          refine wpAnyH_take (i := 5) (v := ?_) rfl (by kernel_rfl) (by kernel_rfl) (by kernel_rfl) (fun _ _ _ h => h) (Or.inl ⟨by rfl, ?_⟩) hT ?_
          rotate_left
          · intro w hSw
            go_simp
            try (with_reducible rfl)
          try go_frame
          refine wpAnyH_ready (rs := [1, 6, 10]) (by kernel_rfl) (by simp) ?_
          refine (AllReadyH.cons rfl (fun K hK => ?_) (AllReadyH.cons rfl (fun K hK => ?_) (AllReadyH.cons rfl (fun K hK => ?_) AllReadyH.nil)))
          · have c1 : W9.cell? ⟨nb, 0, none⟩ = some (.slice (some ⟨g0, 0, none⟩) 1 1) := block_cell HBx.out 0
            go_simp
            refine hK.out _ _ hT (fun hT => ?_)
            clear c1 hK
            try go_frame
            refine wpAnyH_ready (rs := [6, 10]) (by kernel_rfl) (by simp) ?_
            refine (AllReadyH.cons rfl (fun K hK => ?_) (AllReadyH.cons rfl (fun K hK => ?_) AllReadyH.nil))
            · refine step_call3 (v := .int .i64 15) (v2 := .int .i64 0) (v3 := .string p) rfl (.const (.int .i64 15)) (.const (.int .i64 0)) (.tmp 99) 3 3 9 rfl (by simp [Act.eval]) (by simp [Act.eval]) (by simp [Act.eval]) enters22 ?_
              refine (cond_any 15 0 HPs.out _).mono ?_
              rintro e V1 ⟨g1, rfl, hbk1, hg1, -, hb1⟩
              refine ⟨_, rfl, ?_⟩
              have hR : V1.rangeAt g1 0 [.int .i64 15, .string hostB, .int .i64 0, .int .i64 0, .int .i64 0, .int .i64 2, .int .i64 0, .string p, .int .i64 0, .int .i64 0, .int .i64 0, .int .i64 0, .int .i64 0, .int .i64 0, .int .i64 0, .int .i64 0, .slice none 0 0, .slice none 0 0, .slice none 0 0] := fun j u hu => by have hu' : (condN 15 0 p).cells[j]? = some u := hu; rw [Nat.zero_add, block_cell hbk1]; simpa using hu'
              have HN1 : Hid (¬ g1 = g0) := fun e => by have := lt_of_block HBk8.out; omega
              have HN2 : Hid (g1 ≠ nb) := fun e => by have := lt_of_block HBx.out; omega
              refine hK.out _ _ trivial (fun _ => ?_)
              refine wpAnyH_imp (S' := fun W => W.rangeAt g1 0 [.int .i64 15, .string hostB, .int .i64 0, .int .i64 0, .int .i64 0, .int .i64 2, .int .i64 0, .string p, .int .i64 0, .int .i64 0, .int .i64 0, .int .i64 0, .int .i64 0, .int .i64 0, .int .i64 0, .int .i64 0, .slice none 0 0, .slice none 0 0, .slice none 0 0]) (fun _ _ => trivial) _ _ _ _ ?_
              clear hK hbk1
              have hT := hR
              clear hR
              try go_frame
              replace HBx := hid (block_on HBx.out hb1)
              replace HBk8 := hid (block_on HBk8.out hb1)
              replace HF8 := hid (HF8.out.on hb1)
              clear hb1 hg1
              refine wpAnyH_take (i := 7) (v := ?_) rfl (by kernel_rfl) (by kernel_rfl) (by kernel_rfl) (fun _ _ _ h => h) (Or.inl ⟨by rfl, ?_⟩) hT ?_
              rotate_left
              · intro w hSw
                go_simp
                try (with_reducible rfl)
              try go_frame
              refine wpAnyH_take (i := 8) (v := ?_) rfl (by kernel_rfl) (by kernel_rfl) (by kernel_rfl) (fun _ _ _ h => h) (Or.inl ⟨by rfl, ?_⟩) hT ?_
              rotate_left
              · intro w hSw
                go_simp
                try (with_reducible rfl)
              try go_frame
              refine wpAnyH_take (i := 9) (v := .agg #[.int .i64 15, .string hostB, .int .i64 0, .int .i64 0, .int .i64 0, .int .i64 2, .int .i64 0, .string p, .int .i64 0, .int .i64 0, .int .i64 0, .int .i64 0, .int .i64 0, .int .i64 0, .int .i64 0, .int .i64 0, .slice none 0 0, .slice none 0 0, .slice none 0 0]) rfl (by kernel_rfl) (by kernel_rfl) (by kernel_rfl) (fun _ _ _ h => h) (yieldsIf_load_mid (by rfl) 63 (.tmp 102) rfl g1 0 rfl [.int .i64 15, .string hostB, .int .i64 0, .int .i64 0, .int .i64 0, .int .i64 2, .int .i64 0, .string p, .int .i64 0, .int .i64 0, .int .i64 0, .int .i64 0, .int .i64 0, .int .i64 0, .int .i64 0, .int .i64 0, .slice none 0 0, .slice none 0 0, .slice none 0 0] _ (fun _ h => h) Try.underlying63 rfl size63) hT ?_
              try go_frame
              refine wpAnyH_ready (rs := [10]) (by kernel_rfl) (by simp) ?_
              refine (AllReadyH.cons rfl (fun K hK => ?_) AllReadyH.nil)
              · go_simp
                have HLb : Hid ((V1.alloc (.cells #[.int .i64 0, .int .i64 1] 3)).heap[V1.heap.size]? = some (.cells #[.int .i64 0, .int .i64 1] 3)) := alloc_block _ _
                have HBa : Hid (Below V1.heap.size V1 (V1.alloc (.cells #[.int .i64 0, .int .i64 1] 3))) := (Below.refl _ _).alloc (Nat.le_refl _) _
                refine hK.out _ _ (World.rangeAt_alloc hT _) (fun hT => ?_)
                clear hK
                try go_frame
                replace HBx := hid (block_on HBx.out HBa.out)
                replace HBk8 := hid (block_on HBk8.out HBa.out)
                replace HF8 := hid (HF8.out.on HBa.out)
                clear HBa
                generalize V1.alloc (.cells #[.int .i64 0, .int .i64 1] 3) = V2 at *
                generalize V1.heap.size = gL at *
                refine wpAnyH_take (i := 11) (v := ?_) rfl (by kernel_rfl) (by kernel_rfl) (by kernel_rfl) (fun _ _ _ h => h) (Or.inl ⟨by rfl, ?_⟩) hT ?_
                rotate_left
                · intro w hSw
                  go_simp
                  try (with_reducible rfl)
                try go_frame
                refine wpAnyH_ready (rs := [12]) (by kernel_rfl) (by simp) ?_
                refine (AllReadyH.cons rfl (fun K hK => ?_) AllReadyH.nil)
                · go_simp
                  have HB3 : Hid ((V2.alloc (.cells ([condN 15 0 p, andN gL].flatMap Nd.cells).toArray 63)).heap[V2.heap.size]? = some (.cells ([condN 15 0 p, andN gL].flatMap Nd.cells).toArray 63)) := alloc_block _ _
                  have HBa : Hid (Below V2.heap.size V2 (V2.alloc (.cells ([condN 15 0 p, andN gL].flatMap Nd.cells).toArray 63))) := (Below.refl _ _).alloc (Nat.le_refl _) _
                  have hTa : (V2.alloc (.cells ([condN 15 0 p, andN gL].flatMap Nd.cells).toArray 63)).rangeAt g1 0 [.int .i64 15, .string hostB, .int .i64 0, .int .i64 0, .int .i64 0, .int .i64 2, .int .i64 0, .string p, .int .i64 0, .int .i64 0, .int .i64 0, .int .i64 0, .int .i64 0, .int .i64 0, .int .i64 0, .int .i64 0, .slice none 0 0, .slice none 0 0, .slice none 0 0] := World.rangeAt_alloc hT _
                  refine hK.out _ _ hTa (fun _ => ?_)
                  clear hT hK
                  have hT := hTa
                  clear hTa
                  try go_frame
                  have HG3 : Hid (w.heap.size ≤ V2.heap.size) := HF8.out.bel.size
                  replace HBx := hid (block_on HBx.out HBa.out)
                  replace HBk8 := hid (block_on HBk8.out HBa.out)
                  replace HLb := hid (block_on HLb.out HBa.out)
                  replace HF8 := hid (HF8.out.on HBa.out)
                  clear HBa
                  change wpAnyH _ _ _ _ _ _ _ _ (V2.alloc (.cells ([condN 15 0 p, andN gL].flatMap Nd.cells).toArray 63))
                  generalize V2.alloc (.cells ([condN 15 0 p, andN gL].flatMap Nd.cells).toArray 63) = V3 at *
                  generalize V2.heap.size = g3 at *
                  refine wpAnyH_ready (rs := [13]) (by kernel_rfl) (by simp) ?_
                  refine AllReadyH.cons rfl (fun K hK => ?_) AllReadyH.nil
                  refine step_app (xs := [condN 14 1 s]) (ys := [condN 15 0 p, andN gL]) (v := (.slice (some ⟨g0, 0, none⟩) 1 1)) (u := .slice (some ⟨g3, 0, none⟩) 2 2) elem63 nd_len (fun y hy => by simp at hy; rcases hy with rfl | rfl <;> exact nd_one rfl rfl rfl) rfl (.tmp 95) (.tmp 106) rfl (by simp [Act.eval]) (by simp [Act.eval]) (B := w.heap.size) (Own.blk nd_len hg0 (by have := HBk8.out; simpa using this) (by unfold maxLen; simp)) (Own.sl (Own.blk (xs := [condN 15 0 p, andN gL]) nd_len HG3.out HB3.out (by unfold maxLen; simp)) nd_len) (by simp) (by simp) (by omega) HF8.out.bel.size ?_
                  intro v' w10 hown hgr
                  obtain ⟨hc1, hf10, hbx10, hq10⟩ := sure_made HF8.out hg0 HN7.out HBx.out HBk8.out HLb.out HSs.out HPs.out hown hgr
                  have hT10 : w10.rangeAt g1 0 [.int .i64 15, .string hostB, .int .i64 0, .int .i64 0, .int .i64 0, .int .i64 2, .int .i64 0, .string p, .int .i64 0, .int .i64 0, .int .i64 0, .int .i64 0, .int .i64 0, .int .i64 0, .int .i64 0, .int .i64 0, .slice none 0 0, .slice none 0 0, .slice none 0 0] := fun j u hu => (Kp.grown (T := fun k => k = g0) hgr (fun k e => by cases e; rfl)).cell (hT j u hu) HN1.out
                  obtain ⟨pv, cv, rfl⟩ := hown.form
                  have k10 : w10.cell? ⟨nb, 0, none⟩ = some (.slice (some ⟨g0, 0, none⟩) 1 1) := block_cell hc1 0
                  have f10 := block_frozen hc1 0
                  have HQ10 := hid hq10
                  have HF10 := hid hf10
                  have HX10 := hid hbx10
                  clear hq10 hf10 hbx10 hown hgr hT
                  refine hK.out _ _ hT10 (fun hT => ?_)
                  clear hK
                  try go_frame
                  refine wpAnyH_take (i := 14) (v := ?_) rfl (by kernel_rfl) (by kernel_rfl) (by kernel_rfl) (fun _ _ _ h => h) (Or.inl ⟨by rfl, ?_⟩) hT ?_
                  rotate_left
                  · intro w hSw
                    go_simp
                    try (with_reducible rfl)
                  try go_frame
                  refine wpAnyH_ready (rs := [15]) (by kernel_rfl) (by simp) ?_
                  refine AllReadyH.cons rfl (fun K hK => ?_) AllReadyH.nil
                  go_simp
                  refine hK.out _ _ (fun j u hu => (World.cell?_of_block (a := ⟨g1, 0 + j, none⟩) (Below.heap_setCell _ _ _ _ HN2.out)).trans (hT10 j u hu)) (fun _ => ?_)
                  refine wpAnyH_done (by kernel_rfl) ?_ _
                  clear hT10 hT hK k10 f10
                  have e3 : ([condN 14 1 s] ++ [condN 15 0 p, andN gL]).length = 3 := rfl
                  rw [e3] at HQ10 HF10 HX10
                  clear e3
                  generalize w10.setCell ⟨nb, 0, none⟩ (.slice pv 3 cv) = W11 at *
                  have hM := sure_might (g := gL) HSe.out HWit.out HWp.out
                  have HM1 := hid hM.1
                  have HM2 := hid hM.2.1
                  have HM3 := hid hM.2.2
                  have kx := block_cell HX10.out
                  have lx := lt_of_block HX10.out
                  have N1 : Hid True := trivial
                  have N2 : Hid True := trivial
                  clear hM
                  go_wp2_with (first
                    | (go_at_call 18; clear N1; refine (fx_might (i := 0) HF10.out rfl HQ10.out (by decide) (by omega) HM1.out).mono ?_; rintro e w11 ⟨rfl, hf, hb⟩; replace HF10 := hid hf; replace HX10 := hid (block_on HX10.out hb); replace HQ10 := hid (HQ10.out.on hb); replace kx := block_cell HX10.out; replace lx := lt_of_block HX10.out; clear hf hb)
                    | (go_at_call 18; clear N2; refine (fx_might (i := 0) HF10.out rfl HQ10.out (by decide) (by omega) HM2.out).mono ?_; rintro e w11 ⟨rfl, hf, hb⟩; replace HF10 := hid hf; replace HX10 := hid (block_on HX10.out hb); replace HQ10 := hid (HQ10.out.on hb); replace kx := block_cell HX10.out; replace lx := lt_of_block HX10.out; clear hf hb)
                    | (go_at_call 18; refine (fx_might (i := 0) HF10.out rfl HQ10.out (by decide) (by omega) HM3.out).mono ?_; rintro e w11 ⟨rfl, hf, hb⟩; replace HF10 := hid hf; clear hf hb))
                  go_ret
                  exact ⟨rfl, HF10.out.bel⟩
            · go_simp
              have HLb : Hid ((W9.alloc (.cells #[.int .i64 0, .int .i64 1] 3)).heap[W9.heap.size]? = some (.cells #[.int .i64 0, .int .i64 1] 3)) := alloc_block _ _
              have HBa : Hid (Below W9.heap.size W9 (W9.alloc (.cells #[.int .i64 0, .int .i64 1] 3))) := (Below.refl _ _).alloc (Nat.le_refl _) _
              refine hK.out _ _ trivial (fun hT => ?_)
              clear hK
              try go_frame
              replace HBx := hid (block_on HBx.out HBa.out)
              replace HBk8 := hid (block_on HBk8.out HBa.out)
              replace HF8 := hid (HF8.out.on HBa.out)
              clear HBa
              generalize W9.alloc (.cells #[.int .i64 0, .int .i64 1] 3) = V4 at *
              generalize W9.heap.size = gL at *
              refine wpAnyH_take (i := 11) (v := ?_) rfl (by kernel_rfl) (by kernel_rfl) (by kernel_rfl) (fun _ _ _ h => h) (Or.inl ⟨by rfl, ?_⟩) hT ?_
              rotate_left
              · intro w hSw
                go_simp
                try (with_reducible rfl)
              try go_frame
              refine wpAnyH_ready (rs := [6]) (by kernel_rfl) (by simp) ?_
              refine (AllReadyH.cons rfl (fun K hK => ?_) AllReadyH.nil)
              · refine step_call3 (v := .int .i64 15) (v2 := .int .i64 0) (v3 := .string p) rfl (.const (.int .i64 15)) (.const (.int .i64 0)) (.tmp 99) 3 3 9 rfl (by simp [Act.eval]) (by simp [Act.eval]) (by simp [Act.eval]) enters22 ?_
                refine (cond_any 15 0 HPs.out _).mono ?_
                rintro e V5 ⟨g1, rfl, hbk1, hg1, -, hb1⟩
                refine ⟨_, rfl, ?_⟩
                have hR : V5.rangeAt g1 0 [.int .i64 15, .string hostB, .int .i64 0, .int .i64 0, .int .i64 0, .int .i64 2, .int .i64 0, .string p, .int .i64 0, .int .i64 0, .int .i64 0, .int .i64 0, .int .i64 0, .int .i64 0, .int .i64 0, .int .i64 0, .slice none 0 0, .slice none 0 0, .slice none 0 0] := fun j u hu => by have hu' : (condN 15 0 p).cells[j]? = some u := hu; rw [Nat.zero_add, block_cell hbk1]; simpa using hu'
                have HN1 : Hid (¬ g1 = g0) := fun e => by have := lt_of_block HBk8.out; omega
                have HN2 : Hid (g1 ≠ nb) := fun e => by have := lt_of_block HBx.out; omega
                refine hK.out _ _ trivial (fun _ => ?_)
                refine wpAnyH_imp (S' := fun W => W.rangeAt g1 0 [.int .i64 15, .string hostB, .int .i64 0, .int .i64 0, .int .i64 0, .int .i64 2, .int .i64 0, .string p, .int .i64 0, .int .i64 0, .int .i64 0, .int .i64 0, .int .i64 0, .int .i64 0, .int .i64 0, .int .i64 0, .slice none 0 0, .slice none 0 0, .slice none 0 0]) (fun _ _ => trivial) _ _ _ _ ?_
                clear hK hbk1
                have hT := hR
                clear hR
                try go_frame
                replace HBx := hid (block_on HBx.out hb1)
                replace HBk8 := hid (block_on HBk8.out hb1)
                replace HF8 := hid (HF8.out.on hb1)
                replace HLb := hid (block_on HLb.out hb1)
                clear hb1 hg1
                refine wpAnyH_take (i := 7) (v := ?_) rfl (by kernel_rfl) (by kernel_rfl) (by kernel_rfl) (fun _ _ _ h => h) (Or.inl ⟨by rfl, ?_⟩) hT ?_
                rotate_left
                · intro w hSw
                  go_simp
                  try (with_reducible rfl)
                try go_frame
                refine wpAnyH_take (i := 8) (v := ?_) rfl (by kernel_rfl) (by kernel_rfl) (by kernel_rfl) (fun _ _ _ h => h) (Or.inl ⟨by rfl, ?_⟩) hT ?_
                rotate_left
                · intro w hSw
                  go_simp
                  try (with_reducible rfl)
                try go_frame
                refine wpAnyH_take (i := 9) (v := .agg #[.int .i64 15, .string hostB, .int .i64 0, .int .i64 0, .int .i64 0, .int .i64 2, .int .i64 0, .string p, .int .i64 0, .int .i64 0, .int .i64 0, .int .i64 0, .int .i64 0, .int .i64 0, .int .i64 0, .int .i64 0, .slice none 0 0, .slice none 0 0, .slice none 0 0]) rfl (by kernel_rfl) (by kernel_rfl) (by kernel_rfl) (fun _ _ _ h => h) (yieldsIf_load_mid (by rfl) 63 (.tmp 102) rfl g1 0 rfl [.int .i64 15, .string hostB, .int .i64 0, .int .i64 0, .int .i64 0, .int .i64 2, .int .i64 0, .string p, .int .i64 0, .int .i64 0, .int .i64 0, .int .i64 0, .int .i64 0, .int .i64 0, .int .i64 0, .int .i64 0, .slice none 0 0, .slice none 0 0, .slice none 0 0] _ (fun _ h => h) Try.underlying63 rfl size63) hT ?_
                try go_frame
                refine wpAnyH_ready (rs := [12]) (by kernel_rfl) (by simp) ?_
                refine (AllReadyH.cons rfl (fun K hK => ?_) AllReadyH.nil)
                · go_simp
                  have HB3 : Hid ((V5.alloc (.cells ([condN 15 0 p, andN gL].flatMap Nd.cells).toArray 63)).heap[V5.heap.size]? = some (.cells ([condN 15 0 p, andN gL].flatMap Nd.cells).toArray 63)) := alloc_block _ _
                  have HBa : Hid (Below V5.heap.size V5 (V5.alloc (.cells ([condN 15 0 p, andN gL].flatMap Nd.cells).toArray 63))) := (Below.refl _ _).alloc (Nat.le_refl _) _
                  have hTa : (V5.alloc (.cells ([condN 15 0 p, andN gL].flatMap Nd.cells).toArray 63)).rangeAt g1 0 [.int .i64 15, .string hostB, .int .i64 0, .int .i64 0, .int .i64 0, .int .i64 2, .int .i64 0, .string p, .int .i64 0, .int .i64 0, .int .i64 0, .int .i64 0, .int .i64 0, .int .i64 0, .int .i64 0, .int .i64 0, .slice none 0 0, .slice none 0 0, .slice none 0 0] := World.rangeAt_alloc hT _
                  refine hK.out _ _ hTa (fun _ => ?_)
                  clear hT hK
                  have hT := hTa
                  clear hTa
                  try go_frame
                  have HG3 : Hid (w.heap.size ≤ V5.heap.size) := HF8.out.bel.size
                  replace HBx := hid (block_on HBx.out HBa.out)
                  replace HBk8 := hid (block_on HBk8.out HBa.out)
                  replace HLb := hid (block_on HLb.out HBa.out)
                  replace HF8 := hid (HF8.out.on HBa.out)
                  clear HBa
                  change wpAnyH _ _ _ _ _ _ _ _ (V5.alloc (.cells ([condN 15 0 p, andN gL].flatMap Nd.cells).toArray 63))
                  generalize V5.alloc (.cells ([condN 15 0 p, andN gL].flatMap Nd.cells).toArray 63) = V6 at *
                  generalize V5.heap.size = g3 at *
                  refine wpAnyH_ready (rs := [13]) (by kernel_rfl) (by simp) ?_
                  refine AllReadyH.cons rfl (fun K hK => ?_) AllReadyH.nil
                  refine step_app (xs := [condN 14 1 s]) (ys := [condN 15 0 p, andN gL]) (v := (.slice (some ⟨g0, 0, none⟩) 1 1)) (u := .slice (some ⟨g3, 0, none⟩) 2 2) elem63 nd_len (fun y hy => by simp at hy; rcases hy with rfl | rfl <;> exact nd_one rfl rfl rfl) rfl (.tmp 95) (.tmp 106) rfl (by simp [Act.eval]) (by simp [Act.eval]) (B := w.heap.size) (Own.blk nd_len hg0 (by have := HBk8.out; simpa using this) (by unfold maxLen; simp)) (Own.sl (Own.blk (xs := [condN 15 0 p, andN gL]) nd_len HG3.out HB3.out (by unfold maxLen; simp)) nd_len) (by simp) (by simp) (by omega) HF8.out.bel.size ?_
                  intro v' w10 hown hgr
                  obtain ⟨hc1, hf10, hbx10, hq10⟩ := sure_made HF8.out hg0 HN7.out HBx.out HBk8.out HLb.out HSs.out HPs.out hown hgr
                  have hT10 : w10.rangeAt g1 0 [.int .i64 15, .string hostB, .int .i64 0, .int .i64 0, .int .i64 0, .int .i64 2, .int .i64 0, .string p, .int .i64 0, .int .i64 0, .int .i64 0, .int .i64 0, .int .i64 0, .int .i64 0, .int .i64 0, .int .i64 0, .slice none 0 0, .slice none 0 0, .slice none 0 0] := fun j u hu => (Kp.grown (T := fun k => k = g0) hgr (fun k e => by cases e; rfl)).cell (hT j u hu) HN1.out
                  obtain ⟨pv, cv, rfl⟩ := hown.form
                  have k10 : w10.cell? ⟨nb, 0, none⟩ = some (.slice (some ⟨g0, 0, none⟩) 1 1) := block_cell hc1 0
                  have f10 := block_frozen hc1 0
                  have HQ10 := hid hq10
                  have HF10 := hid hf10
                  have HX10 := hid hbx10
                  clear hq10 hf10 hbx10 hown hgr hT
                  refine hK.out _ _ hT10 (fun hT => ?_)
                  clear hK
                  try go_frame
                  refine wpAnyH_take (i := 14) (v := ?_) rfl (by kernel_rfl) (by kernel_rfl) (by kernel_rfl) (fun _ _ _ h => h) (Or.inl ⟨by rfl, ?_⟩) hT ?_
                  rotate_left
                  · intro w hSw
                    go_simp
                    try (with_reducible rfl)
                  try go_frame
                  refine wpAnyH_ready (rs := [15]) (by kernel_rfl) (by simp) ?_
                  refine AllReadyH.cons rfl (fun K hK => ?_) AllReadyH.nil
                  go_simp
                  refine hK.out _ _ (fun j u hu => (World.cell?_of_block (a := ⟨g1, 0 + j, none⟩) (Below.heap_setCell _ _ _ _ HN2.out)).trans (hT10 j u hu)) (fun _ => ?_)
                  refine wpAnyH_done (by kernel_rfl) ?_ _
                  clear hT10 hT hK k10 f10
                  have e3 : ([condN 14 1 s] ++ [condN 15 0 p, andN gL]).length = 3 := rfl
                  rw [e3] at HQ10 HF10 HX10
                  clear e3
                  generalize w10.setCell ⟨nb, 0, none⟩ (.slice pv 3 cv) = W11 at *
                  have hM := sure_might (g := gL) HSe.out HWit.out HWp.out
                  have HM1 := hid hM.1
                  have HM2 := hid hM.2.1
                  have HM3 := hid hM.2.2
                  have kx := block_cell HX10.out
                  have lx := lt_of_block HX10.out
                  have N1 : Hid True := trivial
                  have N2 : Hid True := trivial
                  clear hM
                  go_wp2_with (first
                    | (go_at_call 18; clear N1; refine (fx_might (i := 0) HF10.out rfl HQ10.out (by decide) (by omega) HM1.out).mono ?_; rintro e w11 ⟨rfl, hf, hb⟩; replace HF10 := hid hf; replace HX10 := hid (block_on HX10.out hb); replace HQ10 := hid (HQ10.out.on hb); replace kx := block_cell HX10.out; replace lx := lt_of_block HX10.out; clear hf hb)
                    | (go_at_call 18; clear N2; refine (fx_might (i := 0) HF10.out rfl HQ10.out (by decide) (by omega) HM2.out).mono ?_; rintro e w11 ⟨rfl, hf, hb⟩; replace HF10 := hid hf; replace HX10 := hid (block_on HX10.out hb); replace HQ10 := hid (HQ10.out.on hb); replace kx := block_cell HX10.out; replace lx := lt_of_block HX10.out; clear hf hb)
                    | (go_at_call 18; refine (fx_might (i := 0) HF10.out rfl HQ10.out (by decide) (by omega) HM3.out).mono ?_; rintro e w11 ⟨rfl, hf, hb⟩; replace HF10 := hid hf; clear hf hb))
                  go_ret
                  exact ⟨rfl, HF10.out.bel⟩
          · refine step_call3 (v := .int .i64 15) (v2 := .int .i64 0) (v3 := .string p) rfl (.const (.int .i64 15)) (.const (.int .i64 0)) (.tmp 99) 3 3 9 rfl (by simp [Act.eval]) (by simp [Act.eval]) (by simp [Act.eval]) enters22 ?_
            refine (cond_any 15 0 HPs.out _).mono ?_
            rintro e V7 ⟨g1, rfl, hbk1, hg1, -, hb1⟩
            refine ⟨_, rfl, ?_⟩
            have hR : V7.rangeAt g1 0 [.int .i64 15, .string hostB, .int .i64 0, .int .i64 0, .int .i64 0, .int .i64 2, .int .i64 0, .string p, .int .i64 0, .int .i64 0, .int .i64 0, .int .i64 0, .int .i64 0, .int .i64 0, .int .i64 0, .int .i64 0, .slice none 0 0, .slice none 0 0, .slice none 0 0] := fun j u hu => by have hu' : (condN 15 0 p).cells[j]? = some u := hu; rw [Nat.zero_add, block_cell hbk1]; simpa using hu'
            have HN1 : Hid (¬ g1 = g0) := fun e => by have := lt_of_block HBk8.out; omega
            have HN2 : Hid (g1 ≠ nb) := fun e => by have := lt_of_block HBx.out; omega
            refine hK.out _ _ trivial (fun _ => ?_)
            refine wpAnyH_imp (S' := fun W => W.rangeAt g1 0 [.int .i64 15, .string hostB, .int .i64 0, .int .i64 0, .int .i64 0, .int .i64 2, .int .i64 0, .string p, .int .i64 0, .int .i64 0, .int .i64 0, .int .i64 0, .int .i64 0, .int .i64 0, .int .i64 0, .int .i64 0, .slice none 0 0, .slice none 0 0, .slice none 0 0]) (fun _ _ => trivial) _ _ _ _ ?_
            clear hK hbk1
            have hT := hR
            clear hR
            try go_frame
            replace HBx := hid (block_on HBx.out hb1)
            replace HBk8 := hid (block_on HBk8.out hb1)
            replace HF8 := hid (HF8.out.on hb1)
            clear hb1 hg1
            refine wpAnyH_take (i := 7) (v := ?_) rfl (by kernel_rfl) (by kernel_rfl) (by kernel_rfl) (fun _ _ _ h => h) (Or.inl ⟨by rfl, ?_⟩) hT ?_
            rotate_left
            · intro w hSw
              go_simp
              try (with_reducible rfl)
            try go_frame
            refine wpAnyH_take (i := 8) (v := ?_) rfl (by kernel_rfl) (by kernel_rfl) (by kernel_rfl) (fun _ _ _ h => h) (Or.inl ⟨by rfl, ?_⟩) hT ?_
            rotate_left
            · intro w hSw
              go_simp
              try (with_reducible rfl)
            try go_frame
            refine wpAnyH_take (i := 9) (v := .agg #[.int .i64 15, .string hostB, .int .i64 0, .int .i64 0, .int .i64 0, .int .i64 2, .int .i64 0, .string p, .int .i64 0, .int .i64 0, .int .i64 0, .int .i64 0, .int .i64 0, .int .i64 0, .int .i64 0, .int .i64 0, .slice none 0 0, .slice none 0 0, .slice none 0 0]) rfl (by kernel_rfl) (by kernel_rfl) (by kernel_rfl) (fun _ _ _ h => h) (yieldsIf_load_mid (by rfl) 63 (.tmp 102) rfl g1 0 rfl [.int .i64 15, .string hostB, .int .i64 0, .int .i64 0, .int .i64 0, .int .i64 2, .int .i64 0, .string p, .int .i64 0, .int .i64 0, .int .i64 0, .int .i64 0, .int .i64 0, .int .i64 0, .int .i64 0, .int .i64 0, .slice none 0 0, .slice none 0 0, .slice none 0 0] _ (fun _ h => h) Try.underlying63 rfl size63) hT ?_
            try go_frame
            refine wpAnyH_ready (rs := [1, 10]) (by kernel_rfl) (by simp) ?_
            refine (AllReadyH.cons rfl (fun K hK => ?_) (AllReadyH.cons rfl (fun K hK => ?_) AllReadyH.nil))
            · have c1 : V7.cell? ⟨nb, 0, none⟩ = some (.slice (some ⟨g0, 0, none⟩) 1 1) := block_cell HBx.out 0
              go_simp
              refine hK.out _ _ hT (fun hT => ?_)
              clear c1 hK
              try go_frame
              refine wpAnyH_ready (rs := [10]) (by kernel_rfl) (by simp) ?_
              refine (AllReadyH.cons rfl (fun K hK => ?_) AllReadyH.nil)
              · go_simp
                have HLb : Hid ((V7.alloc (.cells #[.int .i64 0, .int .i64 1] 3)).heap[V7.heap.size]? = some (.cells #[.int .i64 0, .int .i64 1] 3)) := alloc_block _ _
                have HBa : Hid (Below V7.heap.size V7 (V7.alloc (.cells #[.int .i64 0, .int .i64 1] 3))) := (Below.refl _ _).alloc (Nat.le_refl _) _
                refine hK.out _ _ (World.rangeAt_alloc hT _) (fun hT => ?_)
                clear hK
                try go_frame
                replace HBx := hid (block_on HBx.out HBa.out)
                replace HBk8 := hid (block_on HBk8.out HBa.out)
                replace HF8 := hid (HF8.out.on HBa.out)
                clear HBa
                generalize V7.alloc (.cells #[.int .i64 0, .int .i64 1] 3) = V8 at *
                generalize V7.heap.size = gL at *
                refine wpAnyH_take (i := 11) (v := ?_) rfl (by kernel_rfl) (by kernel_rfl) (by kernel_rfl) (fun _ _ _ h => h) (Or.inl ⟨by rfl, ?_⟩) hT ?_
                rotate_left
                · intro w hSw
                  go_simp
                  try (with_reducible rfl)
                try go_frame
                refine wpAnyH_ready (rs := [12]) (by kernel_rfl) (by simp) ?_
                refine (AllReadyH.cons rfl (fun K hK => ?_) AllReadyH.nil)
                · go_simp
                  have HB3 : Hid ((V8.alloc (.cells ([condN 15 0 p, andN gL].flatMap Nd.cells).toArray 63)).heap[V8.heap.size]? = some (.cells ([condN 15 0 p, andN gL].flatMap Nd.cells).toArray 63)) := alloc_block _ _
                  have HBa : Hid (Below V8.heap.size V8 (V8.alloc (.cells ([condN 15 0 p, andN gL].flatMap Nd.cells).toArray 63))) := (Below.refl _ _).alloc (Nat.le_refl _) _
                  have hTa : (V8.alloc (.cells ([condN 15 0 p, andN gL].flatMap Nd.cells).toArray 63)).rangeAt g1 0 [.int .i64 15, .string hostB, .int .i64 0, .int .i64 0, .int .i64 0, .int .i64 2, .int .i64 0, .string p, .int .i64 0, .int .i64 0, .int .i64 0, .int .i64 0, .int .i64 0, .int .i64 0, .int .i64 0, .int .i64 0, .slice none 0 0, .slice none 0 0, .slice none 0 0] := World.rangeAt_alloc hT _
                  refine hK.out _ _ hTa (fun _ => ?_)
                  clear hT hK
                  have hT := hTa
                  clear hTa
                  try go_frame
                  have HG3 : Hid (w.heap.size ≤ V8.heap.size) := HF8.out.bel.size
                  replace HBx := hid (block_on HBx.out HBa.out)
                  replace HBk8 := hid (block_on HBk8.out HBa.out)
                  replace HLb := hid (block_on HLb.out HBa.out)
                  replace HF8 := hid (HF8.out.on HBa.out)
                  clear HBa
                  change wpAnyH _ _ _ _ _ _ _ _ (V8.alloc (.cells ([condN 15 0 p, andN gL].flatMap Nd.cells).toArray 63))
                  generalize V8.alloc (.cells ([condN 15 0 p, andN gL].flatMap Nd.cells).toArray 63) = V9 at *
                  generalize V8.heap.size = g3 at *
                  refine wpAnyH_ready (rs := [13]) (by kernel_rfl) (by simp) ?_
                  refine AllReadyH.cons rfl (fun K hK => ?_) AllReadyH.nil
                  refine step_app (xs := [condN 14 1 s]) (ys := [condN 15 0 p, andN gL]) (v := (.slice (some ⟨g0, 0, none⟩) 1 1)) (u := .slice (some ⟨g3, 0, none⟩) 2 2) elem63 nd_len (fun y hy => by simp at hy; rcases hy with rfl | rfl <;> exact nd_one rfl rfl rfl) rfl (.tmp 95) (.tmp 106) rfl (by simp [Act.eval]) (by simp [Act.eval]) (B := w.heap.size) (Own.blk nd_len hg0 (by have := HBk8.out; simpa using this) (by unfold maxLen; simp)) (Own.sl (Own.blk (xs := [condN 15 0 p, andN gL]) nd_len HG3.out HB3.out (by unfold maxLen; simp)) nd_len) (by simp) (by simp) (by omega) HF8.out.bel.size ?_
                  intro v' w10 hown hgr
                  obtain ⟨hc1, hf10, hbx10, hq10⟩ := sure_made HF8.out hg0 HN7.out HBx.out HBk8.out HLb.out HSs.out HPs.out hown hgr
                  have hT10 : w10.rangeAt g1 0 [.int .i64 15, .string hostB, .int .i64 0, .int .i64 0, .int .i64 0, .int .i64 2, .int .i64 0, .string p, .int .i64 0, .int .i64 0, .int .i64 0, .int .i64 0, .int .i64 0, .int .i64 0, .int .i64 0, .int .i64 0, .slice none 0 0, .slice none 0 0, .slice none 0 0] := fun j u hu => (Kp.grown (T := fun k => k = g0) hgr (fun k e => by cases e; rfl)).cell (hT j u hu) HN1.out
                  obtain ⟨pv, cv, rfl⟩ := hown.form
                  have k10 : w10.cell? ⟨nb, 0, none⟩ = some (.slice (some ⟨g0, 0, none⟩) 1 1) := block_cell hc1 0
                  have f10 := block_frozen hc1 0
                  have HQ10 := hid hq10
                  have HF10 := hid hf10
                  have HX10 := hid hbx10
                  clear hq10 hf10 hbx10 hown hgr hT
                  refine hK.out _ _ hT10 (fun hT => ?_)
                  clear hK
                  try go_frame
                  refine wpAnyH_take (i := 14) (v := ?_) rfl (by kernel_rfl) (by kernel_rfl) (by kernel_rfl) (fun _ _ _ h => h) (Or.inl ⟨by rfl, ?_⟩) hT ?_
                  rotate_left
                  · intro w hSw
                    go_simp
                    try (with_reducible rfl)
                  try go_frame
                  refine wpAnyH_ready (rs := [15]) (by kernel_rfl) (by simp) ?_
                  refine AllReadyH.cons rfl (fun K hK => ?_) AllReadyH.nil
                  go_simp
                  refine hK.out _ _ (fun j u hu => (World.cell?_of_block (a := ⟨g1, 0 + j, none⟩) (Below.heap_setCell _ _ _ _ HN2.out)).trans (hT10 j u hu)) (fun _ => ?_)
                  refine wpAnyH_done (by kernel_rfl) ?_ _
                  clear hT10 hT hK k10 f10
                  have e3 : ([condN 14 1 s] ++ [condN 15 0 p, andN gL]).length = 3 := rfl
                  rw [e3] at HQ10 HF10 HX10
                  clear e3
                  generalize w10.setCell ⟨nb, 0, none⟩ (.slice pv 3 cv) = W11 at *
                  have hM := sure_might (g := gL) HSe.out HWit.out HWp.out
                  have HM1 := hid hM.1
                  have HM2 := hid hM.2.1
                  have HM3 := hid hM.2.2
                  have kx := block_cell HX10.out
                  have lx := lt_of_block HX10.out
                  have N1 : Hid True := trivial
                  have N2 : Hid True := trivial
                  clear hM
                  go_wp2_with (first
                    | (go_at_call 18; clear N1; refine (fx_might (i := 0) HF10.out rfl HQ10.out (by decide) (by omega) HM1.out).mono ?_; rintro e w11 ⟨rfl, hf, hb⟩; replace HF10 := hid hf; replace HX10 := hid (block_on HX10.out hb); replace HQ10 := hid (HQ10.out.on hb); replace kx := block_cell HX10.out; replace lx := lt_of_block HX10.out; clear hf hb)
                    | (go_at_call 18; clear N2; refine (fx_might (i := 0) HF10.out rfl HQ10.out (by decide) (by omega) HM2.out).mono ?_; rintro e w11 ⟨rfl, hf, hb⟩; replace HF10 := hid hf; replace HX10 := hid (block_on HX10.out hb); replace HQ10 := hid (HQ10.out.on hb); replace kx := block_cell HX10.out; replace lx := lt_of_block HX10.out; clear hf hb)
                    | (go_at_call 18; refine (fx_might (i := 0) HF10.out rfl HQ10.out (by decide) (by omega) HM3.out).mono ?_; rintro e w11 ⟨rfl, hf, hb⟩; replace HF10 := hid hf; clear hf hb))
                  go_ret
                  exact ⟨rfl, HF10.out.bel⟩
            · go_simp
              have HLb : Hid ((V7.alloc (.cells #[.int .i64 0, .int .i64 1] 3)).heap[V7.heap.size]? = some (.cells #[.int .i64 0, .int .i64 1] 3)) := alloc_block _ _
              have HBa : Hid (Below V7.heap.size V7 (V7.alloc (.cells #[.int .i64 0, .int .i64 1] 3))) := (Below.refl _ _).alloc (Nat.le_refl _) _
              refine hK.out _ _ (World.rangeAt_alloc hT _) (fun hT => ?_)
              clear hK
              try go_frame
              replace HBx := hid (block_on HBx.out HBa.out)
              replace HBk8 := hid (block_on HBk8.out HBa.out)
              replace HF8 := hid (HF8.out.on HBa.out)
              clear HBa
              generalize V7.alloc (.cells #[.int .i64 0, .int .i64 1] 3) = V10 at *
              generalize V7.heap.size = gL at *
              refine wpAnyH_take (i := 11) (v := ?_) rfl (by kernel_rfl) (by kernel_rfl) (by kernel_rfl) (fun _ _ _ h => h) (Or.inl ⟨by rfl, ?_⟩) hT ?_
              rotate_left
              · intro w hSw
                go_simp
                try (with_reducible rfl)
              try go_frame
              refine wpAnyH_ready (rs := [1, 12]) (by kernel_rfl) (by simp) ?_
              refine (AllReadyH.cons rfl (fun K hK => ?_) (AllReadyH.cons rfl (fun K hK => ?_) AllReadyH.nil))
              · have c1 : V10.cell? ⟨nb, 0, none⟩ = some (.slice (some ⟨g0, 0, none⟩) 1 1) := block_cell HBx.out 0
                go_simp
                refine hK.out _ _ hT (fun hT => ?_)
                clear c1 hK
                try go_frame
                refine wpAnyH_ready (rs := [12]) (by kernel_rfl) (by simp) ?_
                refine (AllReadyH.cons rfl (fun K hK => ?_) AllReadyH.nil)
                · go_simp
                  have HB3 : Hid ((V10.alloc (.cells ([condN 15 0 p, andN gL].flatMap Nd.cells).toArray 63)).heap[V10.heap.size]? = some (.cells ([condN 15 0 p, andN gL].flatMap Nd.cells).toArray 63)) := alloc_block _ _
                  have HBa : Hid (Below V10.heap.size V10 (V10.alloc (.cells ([condN 15 0 p, andN gL].flatMap Nd.cells).toArray 63))) := (Below.refl _ _).alloc (Nat.le_refl _) _
                  have hTa : (V10.alloc (.cells ([condN 15 0 p, andN gL].flatMap Nd.cells).toArray 63)).rangeAt g1 0 [.int .i64 15, .string hostB, .int .i64 0, .int .i64 0, .int .i64 0, .int .i64 2, .int .i64 0, .string p, .int .i64 0, .int .i64 0, .int .i64 0, .int .i64 0, .int .i64 0, .int .i64 0, .int .i64 0, .int .i64 0, .slice none 0 0, .slice none 0 0, .slice none 0 0] := World.rangeAt_alloc hT _
                  refine hK.out _ _ hTa (fun _ => ?_)
                  clear hT hK
                  have hT := hTa
                  clear hTa
                  try go_frame
                  have HG3 : Hid (w.heap.size ≤ V10.heap.size) := HF8.out.bel.size
                  replace HBx := hid (block_on HBx.out HBa.out)
                  replace HBk8 := hid (block_on HBk8.out HBa.out)
                  replace HLb := hid (block_on HLb.out HBa.out)
                  replace HF8 := hid (HF8.out.on HBa.out)
                  clear HBa
                  change wpAnyH _ _ _ _ _ _ _ _ (V10.alloc (.cells ([condN 15 0 p, andN gL].flatMap Nd.cells).toArray 63))
                  generalize V10.alloc (.cells ([condN 15 0 p, andN gL].flatMap Nd.cells).toArray 63) = V11 at *
                  generalize V10.heap.size = g3 at *
                  refine wpAnyH_ready (rs := [13]) (by kernel_rfl) (by simp) ?_
                  refine AllReadyH.cons rfl (fun K hK => ?_) AllReadyH.nil
                  refine step_app (xs := [condN 14 1 s]) (ys := [condN 15 0 p, andN gL]) (v := (.slice (some ⟨g0, 0, none⟩) 1 1)) (u := .slice (some ⟨g3, 0, none⟩) 2 2) elem63 nd_len (fun y hy => by simp at hy; rcases hy with rfl | rfl <;> exact nd_one rfl rfl rfl) rfl (.tmp 95) (.tmp 106) rfl (by simp [Act.eval]) (by simp [Act.eval]) (B := w.heap.size) (Own.blk nd_len hg0 (by have := HBk8.out; simpa using this) (by unfold maxLen; simp)) (Own.sl (Own.blk (xs := [condN 15 0 p, andN gL]) nd_len HG3.out HB3.out (by unfold maxLen; simp)) nd_len) (by simp) (by simp) (by omega) HF8.out.bel.size ?_
                  intro v' w10 hown hgr
                  obtain ⟨hc1, hf10, hbx10, hq10⟩ := sure_made HF8.out hg0 HN7.out HBx.out HBk8.out HLb.out HSs.out HPs.out hown hgr
                  have hT10 : w10.rangeAt g1 0 [.int .i64 15, .string hostB, .int .i64 0, .int .i64 0, .int .i64 0, .int .i64 2, .int .i64 0, .string p, .int .i64 0, .int .i64 0, .int .i64 0, .int .i64 0, .int .i64 0, .int .i64 0, .int .i64 0, .int .i64 0, .slice none 0 0, .slice none 0 0, .slice none 0 0] := fun j u hu => (Kp.grown (T := fun k => k = g0) hgr (fun k e => by cases e; rfl)).cell (hT j u hu) HN1.out
                  obtain ⟨pv, cv, rfl⟩ := hown.form
                  have k10 : w10.cell? ⟨nb, 0, none⟩ = some (.slice (some ⟨g0, 0, none⟩) 1 1) := block_cell hc1 0
                  have f10 := block_frozen hc1 0
                  have HQ10 := hid hq10
                  have HF10 := hid hf10
                  have HX10 := hid hbx10
                  clear hq10 hf10 hbx10 hown hgr hT
                  refine hK.out _ _ hT10 (fun hT => ?_)
                  clear hK
                  try go_frame
                  refine wpAnyH_take (i := 14) (v := ?_) rfl (by kernel_rfl) (by kernel_rfl) (by kernel_rfl) (fun _ _ _ h => h) (Or.inl ⟨by rfl, ?_⟩) hT ?_
                  rotate_left
                  · intro w hSw
                    go_simp
                    try (with_reducible rfl)
                  try go_frame
                  refine wpAnyH_ready (rs := [15]) (by kernel_rfl) (by simp) ?_
                  refine AllReadyH.cons rfl (fun K hK => ?_) AllReadyH.nil
                  go_simp
                  refine hK.out _ _ (fun j u hu => (World.cell?_of_block (a := ⟨g1, 0 + j, none⟩) (Below.heap_setCell _ _ _ _ HN2.out)).trans (hT10 j u hu)) (fun _ => ?_)
                  refine wpAnyH_done (by kernel_rfl) ?_ _
                  clear hT10 hT hK k10 f10
                  have e3 : ([condN 14 1 s] ++ [condN 15 0 p, andN gL]).length = 3 := rfl
                  rw [e3] at HQ10 HF10 HX10
                  clear e3
                  generalize w10.setCell ⟨nb, 0, none⟩ (.slice pv 3 cv) = W11 at *
                  have hM := sure_might (g := gL) HSe.out HWit.out HWp.out
                  have HM1 := hid hM.1
                  have HM2 := hid hM.2.1
                  have HM3 := hid hM.2.2
                  have kx := block_cell HX10.out
                  have lx := lt_of_block HX10.out
                  have N1 : Hid True := trivial
                  have N2 : Hid True := trivial
                  clear hM
                  go_wp2_with (first
                    | (go_at_call 18; clear N1; refine (fx_might (i := 0) HF10.out rfl HQ10.out (by decide) (by omega) HM1.out).mono ?_; rintro e w11 ⟨rfl, hf, hb⟩; replace HF10 := hid hf; replace HX10 := hid (block_on HX10.out hb); replace HQ10 := hid (HQ10.out.on hb); replace kx := block_cell HX10.out; replace lx := lt_of_block HX10.out; clear hf hb)
                    | (go_at_call 18; clear N2; refine (fx_might (i := 0) HF10.out rfl HQ10.out (by decide) (by omega) HM2.out).mono ?_; rintro e w11 ⟨rfl, hf, hb⟩; replace HF10 := hid hf; replace HX10 := hid (block_on HX10.out hb); replace HQ10 := hid (HQ10.out.on hb); replace kx := block_cell HX10.out; replace lx := lt_of_block HX10.out; clear hf hb)
                    | (go_at_call 18; refine (fx_might (i := 0) HF10.out rfl HQ10.out (by decide) (by omega) HM3.out).mono ?_; rintro e w11 ⟨rfl, hf, hb⟩; replace HF10 := hid hf; clear hf hb))
                  go_ret
                  exact ⟨rfl, HF10.out.bel⟩
              · go_simp
                have HB3 : Hid ((V10.alloc (.cells ([condN 15 0 p, andN gL].flatMap Nd.cells).toArray 63)).heap[V10.heap.size]? = some (.cells ([condN 15 0 p, andN gL].flatMap Nd.cells).toArray 63)) := alloc_block _ _
                have HBa : Hid (Below V10.heap.size V10 (V10.alloc (.cells ([condN 15 0 p, andN gL].flatMap Nd.cells).toArray 63))) := (Below.refl _ _).alloc (Nat.le_refl _) _
                have hTa : (V10.alloc (.cells ([condN 15 0 p, andN gL].flatMap Nd.cells).toArray 63)).rangeAt g1 0 [.int .i64 15, .string hostB, .int .i64 0, .int .i64 0, .int .i64 0, .int .i64 2, .int .i64 0, .string p, .int .i64 0, .int .i64 0, .int .i64 0, .int .i64 0, .int .i64 0, .int .i64 0, .int .i64 0, .int .i64 0, .slice none 0 0, .slice none 0 0, .slice none 0 0] := World.rangeAt_alloc hT _
                refine hK.out _ _ hTa (fun _ => ?_)
                clear hT hK
                have hT := hTa
                clear hTa
                try go_frame
                have HG3 : Hid (w.heap.size ≤ V10.heap.size) := HF8.out.bel.size
                replace HBx := hid (block_on HBx.out HBa.out)
                replace HBk8 := hid (block_on HBk8.out HBa.out)
                replace HLb := hid (block_on HLb.out HBa.out)
                replace HF8 := hid (HF8.out.on HBa.out)
                clear HBa
                change wpAnyH _ _ _ _ _ _ _ _ (V10.alloc (.cells ([condN 15 0 p, andN gL].flatMap Nd.cells).toArray 63))
                generalize V10.alloc (.cells ([condN 15 0 p, andN gL].flatMap Nd.cells).toArray 63) = V12 at *
                generalize V10.heap.size = g3 at *
                refine wpAnyH_ready (rs := [1]) (by kernel_rfl) (by simp) ?_
                refine (AllReadyH.cons rfl (fun K hK => ?_) AllReadyH.nil)
                · have c1 : V12.cell? ⟨nb, 0, none⟩ = some (.slice (some ⟨g0, 0, none⟩) 1 1) := block_cell HBx.out 0
                  go_simp
                  refine hK.out _ _ hT (fun hT => ?_)
                  clear c1 hK
                  try go_frame
                  refine wpAnyH_ready (rs := [13]) (by kernel_rfl) (by simp) ?_
                  refine AllReadyH.cons rfl (fun K hK => ?_) AllReadyH.nil
                  refine step_app (xs := [condN 14 1 s]) (ys := [condN 15 0 p, andN gL]) (v := (.slice (some ⟨g0, 0, none⟩) 1 1)) (u := .slice (some ⟨g3, 0, none⟩) 2 2) elem63 nd_len (fun y hy => by simp at hy; rcases hy with rfl | rfl <;> exact nd_one rfl rfl rfl) rfl (.tmp 95) (.tmp 106) rfl (by simp [Act.eval]) (by simp [Act.eval]) (B := w.heap.size) (Own.blk nd_len hg0 (by have := HBk8.out; simpa using this) (by unfold maxLen; simp)) (Own.sl (Own.blk (xs := [condN 15 0 p, andN gL]) nd_len HG3.out HB3.out (by unfold maxLen; simp)) nd_len) (by simp) (by simp) (by omega) HF8.out.bel.size ?_
                  intro v' w10 hown hgr
                  obtain ⟨hc1, hf10, hbx10, hq10⟩ := sure_made HF8.out hg0 HN7.out HBx.out HBk8.out HLb.out HSs.out HPs.out hown hgr
                  have hT10 : w10.rangeAt g1 0 [.int .i64 15, .string hostB, .int .i64 0, .int .i64 0, .int .i64 0, .int .i64 2, .int .i64 0, .string p, .int .i64 0, .int .i64 0, .int .i64 0, .int .i64 0, .int .i64 0, .int .i64 0, .int .i64 0, .int .i64 0, .slice none 0 0, .slice none 0 0, .slice none 0 0] := fun j u hu => (Kp.grown (T := fun k => k = g0) hgr (fun k e => by cases e; rfl)).cell (hT j u hu) HN1.out
                  obtain ⟨pv, cv, rfl⟩ := hown.form
                  have k10 : w10.cell? ⟨nb, 0, none⟩ = some (.slice (some ⟨g0, 0, none⟩) 1 1) := block_cell hc1 0
                  have f10 := block_frozen hc1 0
                  have HQ10 := hid hq10
                  have HF10 := hid hf10
                  have HX10 := hid hbx10
                  clear hq10 hf10 hbx10 hown hgr hT
                  refine hK.out _ _ hT10 (fun hT => ?_)
                  clear hK
                  try go_frame
                  refine wpAnyH_take (i := 14) (v := ?_) rfl (by kernel_rfl) (by kernel_rfl) (by kernel_rfl) (fun _ _ _ h => h) (Or.inl ⟨by rfl, ?_⟩) hT ?_
                  rotate_left
                  · intro w hSw
                    go_simp
                    try (with_reducible rfl)
                  try go_frame
                  refine wpAnyH_ready (rs := [15]) (by kernel_rfl) (by simp) ?_
                  refine AllReadyH.cons rfl (fun K hK => ?_) AllReadyH.nil
                  go_simp
                  refine hK.out _ _ (fun j u hu => (World.cell?_of_block (a := ⟨g1, 0 + j, none⟩) (Below.heap_setCell _ _ _ _ HN2.out)).trans (hT10 j u hu)) (fun _ => ?_)
                  refine wpAnyH_done (by kernel_rfl) ?_ _
                  clear hT10 hT hK k10 f10
                  have e3 : ([condN 14 1 s] ++ [condN 15 0 p, andN gL]).length = 3 := rfl
                  rw [e3] at HQ10 HF10 HX10
                  clear e3
                  generalize w10.setCell ⟨nb, 0, none⟩ (.slice pv 3 cv) = W11 at *
                  have hM := sure_might (g := gL) HSe.out HWit.out HWp.out
                  have HM1 := hid hM.1
                  have HM2 := hid hM.2.1
                  have HM3 := hid hM.2.2
                  have kx := block_cell HX10.out
                  have lx := lt_of_block HX10.out
                  have N1 : Hid True := trivial
                  have N2 : Hid True := trivial
                  clear hM
                  go_wp2_with (first
                    | (go_at_call 18; clear N1; refine (fx_might (i := 0) HF10.out rfl HQ10.out (by decide) (by omega) HM1.out).mono ?_; rintro e w11 ⟨rfl, hf, hb⟩; replace HF10 := hid hf; replace HX10 := hid (block_on HX10.out hb); replace HQ10 := hid (HQ10.out.on hb); replace kx := block_cell HX10.out; replace lx := lt_of_block HX10.out; clear hf hb)
                    | (go_at_call 18; clear N2; refine (fx_might (i := 0) HF10.out rfl HQ10.out (by decide) (by omega) HM2.out).mono ?_; rintro e w11 ⟨rfl, hf, hb⟩; replace HF10 := hid hf; replace HX10 := hid (block_on HX10.out hb); replace HQ10 := hid (HQ10.out.on hb); replace kx := block_cell HX10.out; replace lx := lt_of_block HX10.out; clear hf hb)
                    | (go_at_call 18; refine (fx_might (i := 0) HF10.out rfl HQ10.out (by decide) (by omega) HM3.out).mono ?_; rintro e w11 ⟨rfl, hf, hb⟩; replace HF10 := hid hf; clear hf hb))
                  go_ret
                  exact ⟨rfl, HF10.out.bel⟩
          · go_simp
            have HLb : Hid ((W9.alloc (.cells #[.int .i64 0, .int .i64 1] 3)).heap[W9.heap.size]? = some (.cells #[.int .i64 0, .int .i64 1] 3)) := alloc_block _ _
            have HBa : Hid (Below W9.heap.size W9 (W9.alloc (.cells #[.int .i64 0, .int .i64 1] 3))) := (Below.refl _ _).alloc (Nat.le_refl _) _
            refine hK.out _ _ trivial (fun hT => ?_)
            clear hK
            try go_frame
            replace HBx := hid (block_on HBx.out HBa.out)
            replace HBk8 := hid (block_on HBk8.out HBa.out)
            replace HF8 := hid (HF8.out.on HBa.out)
            clear HBa
            generalize W9.alloc (.cells #[.int .i64 0, .int .i64 1] 3) = V13 at *
            generalize W9.heap.size = gL at *
            refine wpAnyH_take (i := 11) (v := ?_) rfl (by kernel_rfl) (by kernel_rfl) (by kernel_rfl) (fun _ _ _ h => h) (Or.inl ⟨by rfl, ?_⟩) hT ?_
            rotate_left
            · intro w hSw
              go_simp
              try (with_reducible rfl)
            try go_frame
            refine wpAnyH_ready (rs := [1, 6]) (by kernel_rfl) (by simp) ?_
            refine (AllReadyH.cons rfl (fun K hK => ?_) (AllReadyH.cons rfl (fun K hK => ?_) AllReadyH.nil))
            · have c1 : V13.cell? ⟨nb, 0, none⟩ = some (.slice (some ⟨g0, 0, none⟩) 1 1) := block_cell HBx.out 0
              go_simp
              refine hK.out _ _ hT (fun hT => ?_)
              clear c1 hK
              try go_frame
              refine wpAnyH_ready (rs := [6]) (by kernel_rfl) (by simp) ?_
              refine (AllReadyH.cons rfl (fun K hK => ?_) AllReadyH.nil)
              · refine step_call3 (v := .int .i64 15) (v2 := .int .i64 0) (v3 := .string p) rfl (.const (.int .i64 15)) (.const (.int .i64 0)) (.tmp 99) 3 3 9 rfl (by simp [Act.eval]) (by simp [Act.eval]) (by simp [Act.eval]) enters22 ?_
                refine (cond_any 15 0 HPs.out _).mono ?_
                rintro e V14 ⟨g1, rfl, hbk1, hg1, -, hb1⟩
                refine ⟨_, rfl, ?_⟩
                have hR : V14.rangeAt g1 0 [.int .i64 15, .string hostB, .int .i64 0, .int .i64 0, .int .i64 0, .int .i64 2, .int .i64 0, .string p, .int .i64 0, .int .i64 0, .int .i64 0, .int .i64 0, .int .i64 0, .int .i64 0, .int .i64 0, .int .i64 0, .slice none 0 0, .slice none 0 0, .slice none 0 0] := fun j u hu => by have hu' : (condN 15 0 p).cells[j]? = some u := hu; rw [Nat.zero_add, block_cell hbk1]; simpa using hu'
                have HN1 : Hid (¬ g1 = g0) := fun e => by have := lt_of_block HBk8.out; omega
                have HN2 : Hid (g1 ≠ nb) := fun e => by have := lt_of_block HBx.out; omega
                refine hK.out _ _ trivial (fun _ => ?_)
                refine wpAnyH_imp (S' := fun W => W.rangeAt g1 0 [.int .i64 15, .string hostB, .int .i64 0, .int .i64 0, .int .i64 0, .int .i64 2, .int .i64 0, .string p, .int .i64 0, .int .i64 0, .int .i64 0, .int .i64 0, .int .i64 0, .int .i64 0, .int .i64 0, .int .i64 0, .slice none 0 0, .slice none 0 0, .slice none 0 0]) (fun _ _ => trivial) _ _ _ _ ?_
                clear hK hbk1
                have hT := hR
                clear hR
                try go_frame
                replace HBx := hid (block_on HBx.out hb1)
                replace HBk8 := hid (block_on HBk8.out hb1)
                replace HF8 := hid (HF8.out.on hb1)
                replace HLb := hid (block_on HLb.out hb1)
                clear hb1 hg1
                refine wpAnyH_take (i := 7) (v := ?_) rfl (by kernel_rfl) (by kernel_rfl) (by kernel_rfl) (fun _ _ _ h => h) (Or.inl ⟨by rfl, ?_⟩) hT ?_
                rotate_left
                · intro w hSw
                  go_simp
                  try (with_reducible rfl)
                try go_frame
                refine wpAnyH_take (i := 8) (v := ?_) rfl (by kernel_rfl) (by kernel_rfl) (by kernel_rfl) (fun _ _ _ h => h) (Or.inl ⟨by rfl, ?_⟩) hT ?_
                rotate_left
                · intro w hSw
                  go_simp
                  try (with_reducible rfl)
                try go_frame
                refine wpAnyH_take (i := 9) (v := .agg #[.int .i64 15, .string hostB, .int .i64 0, .int .i64 0, .int .i64 0, .int .i64 2, .int .i64 0, .string p, .int .i64 0, .int .i64 0, .int .i64 0, .int .i64 0, .int .i64 0, .int .i64 0, .int .i64 0, .int .i64 0, .slice none 0 0, .slice none 0 0, .slice none 0 0]) rfl (by kernel_rfl) (by kernel_rfl) (by kernel_rfl) (fun _ _ _ h => h) (yieldsIf_load_mid (by rfl) 63 (.tmp 102) rfl g1 0 rfl [.int .i64 15, .string hostB, .int .i64 0, .int .i64 0, .int .i64 0, .int .i64 2, .int .i64 0, .string p, .int .i64 0, .int .i64 0, .int .i64 0, .int .i64 0, .int .i64 0, .int .i64 0, .int .i64 0, .int .i64 0, .slice none 0 0, .slice none 0 0, .slice none 0 0] _ (fun _ h => h) Try.underlying63 rfl size63) hT ?_
                try go_frame
                refine wpAnyH_ready (rs := [12]) (by kernel_rfl) (by simp) ?_
                refine (AllReadyH.cons rfl (fun K hK => ?_) AllReadyH.nil)
                · go_simp
                  have HB3 : Hid ((V14.alloc (.cells ([condN 15 0 p, andN gL].flatMap Nd.cells).toArray 63)).heap[V14.heap.size]? = some (.cells ([condN 15 0 p, andN gL].flatMap Nd.cells).toArray 63)) := alloc_block _ _
                  have HBa : Hid (Below V14.heap.size V14 (V14.alloc (.cells ([condN 15 0 p, andN gL].flatMap Nd.cells).toArray 63))) := (Below.refl _ _).alloc (Nat.le_refl _) _
                  have hTa : (V14.alloc (.cells ([condN 15 0 p, andN gL].flatMap Nd.cells).toArray 63)).rangeAt g1 0 [.int .i64 15, .string hostB, .int .i64 0, .int .i64 0, .int .i64 0, .int .i64 2, .int .i64 0, .string p, .int .i64 0, .int .i64 0, .int .i64 0, .int .i64 0, .int .i64 0, .int .i64 0, .int .i64 0, .int .i64 0, .slice none 0 0, .slice none 0 0, .slice none 0 0] := World.rangeAt_alloc hT _
                  refine hK.out _ _ hTa (fun _ => ?_)
                  clear hT hK
                  have hT := hTa
                  clear hTa
                  try go_frame
                  have HG3 : Hid (w.heap.size ≤ V14.heap.size) := HF8.out.bel.size
                  replace HBx := hid (block_on HBx.out HBa.out)
                  replace HBk8 := hid (block_on HBk8.out HBa.out)
                  replace HLb := hid (block_on HLb.out HBa.out)
                  replace HF8 := hid (HF8.out.on HBa.out)
                  clear HBa
                  change wpAnyH _ _ _ _ _ _ _ _ (V14.alloc (.cells ([condN 15 0 p, andN gL].flatMap Nd.cells).toArray 63))
                  generalize V14.alloc (.cells ([condN 15 0 p, andN gL].flatMap Nd.cells).toArray 63) = V15 at *
                  generalize V14.heap.size = g3 at *
                  refine wpAnyH_ready (rs := [13]) (by kernel_rfl) (by simp) ?_
                  refine AllReadyH.cons rfl (fun K hK => ?_) AllReadyH.nil
                  refine step_app (xs := [condN 14 1 s]) (ys := [condN 15 0 p, andN gL]) (v := (.slice (some ⟨g0, 0, none⟩) 1 1)) (u := .slice (some ⟨g3, 0, none⟩) 2 2) elem63 nd_len (fun y hy => by simp at hy; rcases hy with rfl | rfl <;> exact nd_one rfl rfl rfl) rfl (.tmp 95) (.tmp 106) rfl (by simp [Act.eval]) (by simp [Act.eval]) (B := w.heap.size) (Own.blk nd_len hg0 (by have := HBk8.out; simpa using this) (by unfold maxLen; simp)) (Own.sl (Own.blk (xs := [condN 15 0 p, andN gL]) nd_len HG3.out HB3.out (by unfold maxLen; simp)) nd_len) (by simp) (by simp) (by omega) HF8.out.bel.size ?_
                  intro v' w10 hown hgr
                  obtain ⟨hc1, hf10, hbx10, hq10⟩ := sure_made HF8.out hg0 HN7.out HBx.out HBk8.out HLb.out HSs.out HPs.out hown hgr
                  have hT10 : w10.rangeAt g1 0 [.int .i64 15, .string hostB, .int .i64 0, .int .i64 0, .int .i64 0, .int .i64 2, .int .i64 0, .string p, .int .i64 0, .int .i64 0, .int .i64 0, .int .i64 0, .int .i64 0, .int .i64 0, .int .i64 0, .int .i64 0, .slice none 0 0, .slice none 0 0, .slice none 0 0] := fun j u hu => (Kp.grown (T := fun k => k = g0) hgr (fun k e => by cases e; rfl)).cell (hT j u hu) HN1.out
                  obtain ⟨pv, cv, rfl⟩ := hown.form
                  have k10 : w10.cell? ⟨nb, 0, none⟩ = some (.slice (some ⟨g0, 0, none⟩) 1 1) := block_cell hc1 0
                  have f10 := block_frozen hc1 0
                  have HQ10 := hid hq10
                  have HF10 := hid hf10
                  have HX10 := hid hbx10
                  clear hq10 hf10 hbx10 hown hgr hT
                  refine hK.out _ _ hT10 (fun hT => ?_)
                  clear hK
                  try go_frame
                  refine wpAnyH_take (i := 14) (v := ?_) rfl (by kernel_rfl) (by kernel_rfl) (by kernel_rfl) (fun _ _ _ h => h) (Or.inl ⟨by rfl, ?_⟩) hT ?_
                  rotate_left
                  · intro w hSw
                    go_simp
                    try (with_reducible rfl)
                  try go_frame
                  refine wpAnyH_ready (rs := [15]) (by kernel_rfl) (by simp) ?_
                  refine AllReadyH.cons rfl (fun K hK => ?_) AllReadyH.nil
                  go_simp
                  refine hK.out _ _ (fun j u hu => (World.cell?_of_block (a := ⟨g1, 0 + j, none⟩) (Below.heap_setCell _ _ _ _ HN2.out)).trans (hT10 j u hu)) (fun _ => ?_)
                  refine wpAnyH_done (by kernel_rfl) ?_ _
                  clear hT10 hT hK k10 f10
                  have e3 : ([condN 14 1 s] ++ [condN 15 0 p, andN gL]).length = 3 := rfl
                  rw [e3] at HQ10 HF10 HX10
                  clear e3
                  generalize w10.setCell ⟨nb, 0, none⟩ (.slice pv 3 cv) = W11 at *
                  have hM := sure_might (g := gL) HSe.out HWit.out HWp.out
                  have HM1 := hid hM.1
                  have HM2 := hid hM.2.1
                  have HM3 := hid hM.2.2
                  have kx := block_cell HX10.out
                  have lx := lt_of_block HX10.out
                  have N1 : Hid True := trivial
                  have N2 : Hid True := trivial
                  clear hM
                  go_wp2_with (first
                    | (go_at_call 18; clear N1; refine (fx_might (i := 0) HF10.out rfl HQ10.out (by decide) (by omega) HM1.out).mono ?_; rintro e w11 ⟨rfl, hf, hb⟩; replace HF10 := hid hf; replace HX10 := hid (block_on HX10.out hb); replace HQ10 := hid (HQ10.out.on hb); replace kx := block_cell HX10.out; replace lx := lt_of_block HX10.out; clear hf hb)
                    | (go_at_call 18; clear N2; refine (fx_might (i := 0) HF10.out rfl HQ10.out (by decide) (by omega) HM2.out).mono ?_; rintro e w11 ⟨rfl, hf, hb⟩; replace HF10 := hid hf; replace HX10 := hid (block_on HX10.out hb); replace HQ10 := hid (HQ10.out.on hb); replace kx := block_cell HX10.out; replace lx := lt_of_block HX10.out; clear hf hb)
                    | (go_at_call 18; refine (fx_might (i := 0) HF10.out rfl HQ10.out (by decide) (by omega) HM3.out).mono ?_; rintro e w11 ⟨rfl, hf, hb⟩; replace HF10 := hid hf; clear hf hb))
                  go_ret
                  exact ⟨rfl, HF10.out.bel⟩
            · refine step_call3 (v := .int .i64 15) (v2 := .int .i64 0) (v3 := .string p) rfl (.const (.int .i64 15)) (.const (.int .i64 0)) (.tmp 99) 3 3 9 rfl (by simp [Act.eval]) (by simp [Act.eval]) (by simp [Act.eval]) enters22 ?_
              refine (cond_any 15 0 HPs.out _).mono ?_
              rintro e V16 ⟨g1, rfl, hbk1, hg1, -, hb1⟩
              refine ⟨_, rfl, ?_⟩
              have hR : V16.rangeAt g1 0 [.int .i64 15, .string hostB, .int .i64 0, .int .i64 0, .int .i64 0, .int .i64 2, .int .i64 0, .string p, .int .i64 0, .int .i64 0, .int .i64 0, .int .i64 0, .int .i64 0, .int .i64 0, .int .i64 0, .int .i64 0, .slice none 0 0, .slice none 0 0, .slice none 0 0] := fun j u hu => by have hu' : (condN 15 0 p).cells[j]? = some u := hu; rw [Nat.zero_add, block_cell hbk1]; simpa using hu'
              have HN1 : Hid (¬ g1 = g0) := fun e => by have := lt_of_block HBk8.out; omega
              have HN2 : Hid (g1 ≠ nb) := fun e => by have := lt_of_block HBx.out; omega
              refine hK.out _ _ trivial (fun _ => ?_)
              refine wpAnyH_imp (S' := fun W => W.rangeAt g1 0 [.int .i64 15, .string hostB, .int .i64 0, .int .i64 0, .int .i64 0, .int .i64 2, .int .i64 0, .string p, .int .i64 0, .int .i64 0, .int .i64 0, .int .i64 0, .int .i64 0, .int .i64 0, .int .i64 0, .int .i64 0, .slice none 0 0, .slice none 0 0, .slice none 0 0]) (fun _ _ => trivial) _ _ _ _ ?_
              clear hK hbk1
              have hT := hR
              clear hR
              try go_frame
              replace HBx := hid (block_on HBx.out hb1)
              replace HBk8 := hid (block_on HBk8.out hb1)
              replace HF8 := hid (HF8.out.on hb1)
              replace HLb := hid (block_on HLb.out hb1)
              clear hb1 hg1
              refine wpAnyH_take (i := 7) (v := ?_) rfl (by kernel_rfl) (by kernel_rfl) (by kernel_rfl) (fun _ _ _ h => h) (Or.inl ⟨by rfl, ?_⟩) hT ?_
              rotate_left
              · intro w hSw
                go_simp
                try (with_reducible rfl)
              try go_frame
              refine wpAnyH_take (i := 8) (v := ?_) rfl (by kernel_rfl) (by kernel_rfl) (by kernel_rfl) (fun _ _ _ h => h) (Or.inl ⟨by rfl, ?_⟩) hT ?_
              rotate_left
              · intro w hSw
                go_simp
                try (with_reducible rfl)
              try go_frame
              refine wpAnyH_take (i := 9) (v := .agg #[.int .i64 15, .string hostB, .int .i64 0, .int .i64 0, .int .i64 0, .int .i64 2, .int .i64 0, .string p, .int .i64 0, .int .i64 0, .int .i64 0, .int .i64 0, .int .i64 0, .int .i64 0, .int .i64 0, .int .i64 0, .slice none 0 0, .slice none 0 0, .slice none 0 0]) rfl (by kernel_rfl) (by kernel_rfl) (by kernel_rfl) (fun _ _ _ h => h) (yieldsIf_load_mid (by rfl) 63 (.tmp 102) rfl g1 0 rfl [.int .i64 15, .string hostB, .int .i64 0, .int .i64 0, .int .i64 0, .int .i64 2, .int .i64 0, .string p, .int .i64 0, .int .i64 0, .int .i64 0, .int .i64 0, .int .i64 0, .int .i64 0, .int .i64 0, .int .i64 0, .slice none 0 0, .slice none 0 0, .slice none 0 0] _ (fun _ h => h) Try.underlying63 rfl size63) hT ?_
              try go_frame
              refine wpAnyH_ready (rs := [1, 12]) (by kernel_rfl) (by simp) ?_
              refine (AllReadyH.cons rfl (fun K hK => ?_) (AllReadyH.cons rfl (fun K hK => ?_) AllReadyH.nil))
              · have c1 : V16.cell? ⟨nb, 0, none⟩ = some (.slice (some ⟨g0, 0, none⟩) 1 1) := block_cell HBx.out 0
                go_simp
                refine hK.out _ _ hT (fun hT => ?_)
                clear c1 hK
                try go_frame
                refine wpAnyH_ready (rs := [12]) (by kernel_rfl) (by simp) ?_
                refine (AllReadyH.cons rfl (fun K hK => ?_) AllReadyH.nil)
                · go_simp
                  have HB3 : Hid ((V16.alloc (.cells ([condN 15 0 p, andN gL].flatMap Nd.cells).toArray 63)).heap[V16.heap.size]? = some (.cells ([condN 15 0 p, andN gL].flatMap Nd.cells).toArray 63)) := alloc_block _ _
                  have HBa : Hid (Below V16.heap.size V16 (V16.alloc (.cells ([condN 15 0 p, andN gL].flatMap Nd.cells).toArray 63))) := (Below.refl _ _).alloc (Nat.le_refl _) _
                  have hTa : (V16.alloc (.cells ([condN 15 0 p, andN gL].flatMap Nd.cells).toArray 63)).rangeAt g1 0 [.int .i64 15, .string hostB, .int .i64 0, .int .i64 0, .int .i64 0, .int .i64 2, .int .i64 0, .string p, .int .i64 0, .int .i64 0, .int .i64 0, .int .i64 0, .int .i64 0, .int .i64 0, .int .i64 0, .int .i64 0, .slice none 0 0, .slice none 0 0, .slice none 0 0] := World.rangeAt_alloc hT _
                  refine hK.out _ _ hTa (fun _ => ?_)
                  clear hT hK
                  have hT := hTa
                  clear hTa
                  try go_frame
                  have HG3 : Hid (w.heap.size ≤ V16.heap.size) := HF8.out.bel.size
                  replace HBx := hid (block_on HBx.out HBa.out)
                  replace HBk8 := hid (block_on HBk8.out HBa.out)
                  replace HLb := hid (block_on HLb.out HBa.out)
                  replace HF8 := hid (HF8.out.on HBa.out)
                  clear HBa
                  change wpAnyH _ _ _ _ _ _ _ _ (V16.alloc (.cells ([condN 15 0 p, andN gL].flatMap Nd.cells).toArray 63))
                  generalize V16.alloc (.cells ([condN 15 0 p, andN gL].flatMap Nd.cells).toArray 63) = V17 at *
                  generalize V16.heap.size = g3 at *
                  refine wpAnyH_ready (rs := [13]) (by kernel_rfl) (by simp) ?_
                  refine AllReadyH.cons rfl (fun K hK => ?_) AllReadyH.nil
                  refine step_app (xs := [condN 14 1 s]) (ys := [condN 15 0 p, andN gL]) (v := (.slice (some ⟨g0, 0, none⟩) 1 1)) (u := .slice (some ⟨g3, 0, none⟩) 2 2) elem63 nd_len (fun y hy => by simp at hy; rcases hy with rfl | rfl <;> exact nd_one rfl rfl rfl) rfl (.tmp 95) (.tmp 106) rfl (by simp [Act.eval]) (by simp [Act.eval]) (B := w.heap.size) (Own.blk nd_len hg0 (by have := HBk8.out; simpa using this) (by unfold maxLen; simp)) (Own.sl (Own.blk (xs := [condN 15 0 p, andN gL]) nd_len HG3.out HB3.out (by unfold maxLen; simp)) nd_len) (by simp) (by simp) (by omega) HF8.out.bel.size ?_
                  intro v' w10 hown hgr
                  obtain ⟨hc1, hf10, hbx10, hq10⟩ := sure_made HF8.out hg0 HN7.out HBx.out HBk8.out HLb.out HSs.out HPs.out hown hgr
                  have hT10 : w10.rangeAt g1 0 [.int .i64 15, .string hostB, .int .i64 0, .int .i64 0, .int .i64 0, .int .i64 2, .int .i64 0, .string p, .int .i64 0, .int .i64 0, .int .i64 0, .int .i64 0, .int .i64 0, .int .i64 0, .int .i64 0, .int .i64 0, .slice none 0 0, .slice none 0 0, .slice none 0 0] := fun j u hu => (Kp.grown (T := fun k => k = g0) hgr (fun k e => by cases e; rfl)).cell (hT j u hu) HN1.out
                  obtain ⟨pv, cv, rfl⟩ := hown.form
                  have k10 : w10.cell? ⟨nb, 0, none⟩ = some (.slice (some ⟨g0, 0, none⟩) 1 1) := block_cell hc1 0
                  have f10 := block_frozen hc1 0
                  have HQ10 := hid hq10
                  have HF10 := hid hf10
                  have HX10 := hid hbx10
                  clear hq10 hf10 hbx10 hown hgr hT
                  refine hK.out _ _ hT10 (fun hT => ?_)
                  clear hK
                  try go_frame
                  refine wpAnyH_take (i := 14) (v := ?_) rfl (by kernel_rfl) (by kernel_rfl) (by kernel_rfl) (fun _ _ _ h => h) (Or.inl ⟨by rfl, ?_⟩) hT ?_
                  rotate_left
                  · intro w hSw
                    go_simp
                    try (with_reducible rfl)
                  try go_frame
                  refine wpAnyH_ready (rs := [15]) (by kernel_rfl) (by simp) ?_
                  refine AllReadyH.cons rfl (fun K hK => ?_) AllReadyH.nil
                  go_simp
                  refine hK.out _ _ (fun j u hu => (World.cell?_of_block (a := ⟨g1, 0 + j, none⟩) (Below.heap_setCell _ _ _ _ HN2.out)).trans (hT10 j u hu)) (fun _ => ?_)
                  refine wpAnyH_done (by kernel_rfl) ?_ _
                  clear hT10 hT hK k10 f10
                  have e3 : ([condN 14 1 s] ++ [condN 15 0 p, andN gL]).length = 3 := rfl
                  rw [e3] at HQ10 HF10 HX10
                  clear e3
                  generalize w10.setCell ⟨nb, 0, none⟩ (.slice pv 3 cv) = W11 at *
                  have hM := sure_might (g := gL) HSe.out HWit.out HWp.out
                  have HM1 := hid hM.1
                  have HM2 := hid hM.2.1
                  have HM3 := hid hM.2.2
                  have kx := block_cell HX10.out
                  have lx := lt_of_block HX10.out
                  have N1 : Hid True := trivial
                  have N2 : Hid True := trivial
                  clear hM
                  go_wp2_with (first
                    | (go_at_call 18; clear N1; refine (fx_might (i := 0) HF10.out rfl HQ10.out (by decide) (by omega) HM1.out).mono ?_; rintro e w11 ⟨rfl, hf, hb⟩; replace HF10 := hid hf; replace HX10 := hid (block_on HX10.out hb); replace HQ10 := hid (HQ10.out.on hb); replace kx := block_cell HX10.out; replace lx := lt_of_block HX10.out; clear hf hb)
                    | (go_at_call 18; clear N2; refine (fx_might (i := 0) HF10.out rfl HQ10.out (by decide) (by omega) HM2.out).mono ?_; rintro e w11 ⟨rfl, hf, hb⟩; replace HF10 := hid hf; replace HX10 := hid (block_on HX10.out hb); replace HQ10 := hid (HQ10.out.on hb); replace kx := block_cell HX10.out; replace lx := lt_of_block HX10.out; clear hf hb)
                    | (go_at_call 18; refine (fx_might (i := 0) HF10.out rfl HQ10.out (by decide) (by omega) HM3.out).mono ?_; rintro e w11 ⟨rfl, hf, hb⟩; replace HF10 := hid hf; clear hf hb))
                  go_ret
                  exact ⟨rfl, HF10.out.bel⟩
              · go_simp
                have HB3 : Hid ((V16.alloc (.cells ([condN 15 0 p, andN gL].flatMap Nd.cells).toArray 63)).heap[V16.heap.size]? = some (.cells ([condN 15 0 p, andN gL].flatMap Nd.cells).toArray 63)) := alloc_block _ _
                have HBa : Hid (Below V16.heap.size V16 (V16.alloc (.cells ([condN 15 0 p, andN gL].flatMap Nd.cells).toArray 63))) := (Below.refl _ _).alloc (Nat.le_refl _) _
                have hTa : (V16.alloc (.cells ([condN 15 0 p, andN gL].flatMap Nd.cells).toArray 63)).rangeAt g1 0 [.int .i64 15, .string hostB, .int .i64 0, .int .i64 0, .int .i64 0, .int .i64 2, .int .i64 0, .string p, .int .i64 0, .int .i64 0, .int .i64 0, .int .i64 0, .int .i64 0, .int .i64 0, .int .i64 0, .int .i64 0, .slice none 0 0, .slice none 0 0, .slice none 0 0] := World.rangeAt_alloc hT _
                refine hK.out _ _ hTa (fun _ => ?_)
                clear hT hK
                have hT := hTa
                clear hTa
                try go_frame
                have HG3 : Hid (w.heap.size ≤ V16.heap.size) := HF8.out.bel.size
                replace HBx := hid (block_on HBx.out HBa.out)
                replace HBk8 := hid (block_on HBk8.out HBa.out)
                replace HLb := hid (block_on HLb.out HBa.out)
                replace HF8 := hid (HF8.out.on HBa.out)
                clear HBa
                change wpAnyH _ _ _ _ _ _ _ _ (V16.alloc (.cells ([condN 15 0 p, andN gL].flatMap Nd.cells).toArray 63))
                generalize V16.alloc (.cells ([condN 15 0 p, andN gL].flatMap Nd.cells).toArray 63) = V18 at *
                generalize V16.heap.size = g3 at *
                refine wpAnyH_ready (rs := [1]) (by kernel_rfl) (by simp) ?_
                refine (AllReadyH.cons rfl (fun K hK => ?_) AllReadyH.nil)
                · have c1 : V18.cell? ⟨nb, 0, none⟩ = some (.slice (some ⟨g0, 0, none⟩) 1 1) := block_cell HBx.out 0
                  go_simp
                  refine hK.out _ _ hT (fun hT => ?_)
                  clear c1 hK
                  try go_frame
                  refine wpAnyH_ready (rs := [13]) (by kernel_rfl) (by simp) ?_
                  refine AllReadyH.cons rfl (fun K hK => ?_) AllReadyH.nil
                  refine step_app (xs := [condN 14 1 s]) (ys := [condN 15 0 p, andN gL]) (v := (.slice (some ⟨g0, 0, none⟩) 1 1)) (u := .slice (some ⟨g3, 0, none⟩) 2 2) elem63 nd_len (fun y hy => by simp at hy; rcases hy with rfl | rfl <;> exact nd_one rfl rfl rfl) rfl (.tmp 95) (.tmp 106) rfl (by simp [Act.eval]) (by simp [Act.eval]) (B := w.heap.size) (Own.blk nd_len hg0 (by have := HBk8.out; simpa using this) (by unfold maxLen; simp)) (Own.sl (Own.blk (xs := [condN 15 0 p, andN gL]) nd_len HG3.out HB3.out (by unfold maxLen; simp)) nd_len) (by simp) (by simp) (by omega) HF8.out.bel.size ?_
                  intro v' w10 hown hgr
                  obtain ⟨hc1, hf10, hbx10, hq10⟩ := sure_made HF8.out hg0 HN7.out HBx.out HBk8.out HLb.out HSs.out HPs.out hown hgr
                  have hT10 : w10.rangeAt g1 0 [.int .i64 15, .string hostB, .int .i64 0, .int .i64 0, .int .i64 0, .int .i64 2, .int .i64 0, .string p, .int .i64 0, .int .i64 0, .int .i64 0, .int .i64 0, .int .i64 0, .int .i64 0, .int .i64 0, .int .i64 0, .slice none 0 0, .slice none 0 0, .slice none 0 0] := fun j u hu => (Kp.grown (T := fun k => k = g0) hgr (fun k e => by cases e; rfl)).cell (hT j u hu) HN1.out
                  obtain ⟨pv, cv, rfl⟩ := hown.form
                  have k10 : w10.cell? ⟨nb, 0, none⟩ = some (.slice (some ⟨g0, 0, none⟩) 1 1) := block_cell hc1 0
                  have f10 := block_frozen hc1 0
                  have HQ10 := hid hq10
                  have HF10 := hid hf10
                  have HX10 := hid hbx10
                  clear hq10 hf10 hbx10 hown hgr hT
                  refine hK.out _ _ hT10 (fun hT => ?_)
                  clear hK
                  try go_frame
                  refine wpAnyH_take (i := 14) (v := ?_) rfl (by kernel_rfl) (by kernel_rfl) (by kernel_rfl) (fun _ _ _ h => h) (Or.inl ⟨by rfl, ?_⟩) hT ?_
                  rotate_left
                  · intro w hSw
                    go_simp
                    try (with_reducible rfl)
                  try go_frame
                  refine wpAnyH_ready (rs := [15]) (by kernel_rfl) (by simp) ?_
                  refine AllReadyH.cons rfl (fun K hK => ?_) AllReadyH.nil
                  go_simp
                  refine hK.out _ _ (fun j u hu => (World.cell?_of_block (a := ⟨g1, 0 + j, none⟩) (Below.heap_setCell _ _ _ _ HN2.out)).trans (hT10 j u hu)) (fun _ => ?_)
                  refine wpAnyH_done (by kernel_rfl) ?_ _
                  clear hT10 hT hK k10 f10
                  have e3 : ([condN 14 1 s] ++ [condN 15 0 p, andN gL]).length = 3 := rfl
                  rw [e3] at HQ10 HF10 HX10
                  clear e3
                  generalize w10.setCell ⟨nb, 0, none⟩ (.slice pv 3 cv) = W11 at *
                  have hM := sure_might (g := gL) HSe.out HWit.out HWp.out
                  have HM1 := hid hM.1
                  have HM2 := hid hM.2.1
                  have HM3 := hid hM.2.2
                  have kx := block_cell HX10.out
                  have lx := lt_of_block HX10.out
                  have N1 : Hid True := trivial
                  have N2 : Hid True := trivial
                  clear hM
                  go_wp2_with (first
                    | (go_at_call 18; clear N1; refine (fx_might (i := 0) HF10.out rfl HQ10.out (by decide) (by omega) HM1.out).mono ?_; rintro e w11 ⟨rfl, hf, hb⟩; replace HF10 := hid hf; replace HX10 := hid (block_on HX10.out hb); replace HQ10 := hid (HQ10.out.on hb); replace kx := block_cell HX10.out; replace lx := lt_of_block HX10.out; clear hf hb)
                    | (go_at_call 18; clear N2; refine (fx_might (i := 0) HF10.out rfl HQ10.out (by decide) (by omega) HM2.out).mono ?_; rintro e w11 ⟨rfl, hf, hb⟩; replace HF10 := hid hf; replace HX10 := hid (block_on HX10.out hb); replace HQ10 := hid (HQ10.out.on hb); replace kx := block_cell HX10.out; replace lx := lt_of_block HX10.out; clear hf hb)
                    | (go_at_call 18; refine (fx_might (i := 0) HF10.out rfl HQ10.out (by decide) (by omega) HM3.out).mono ?_; rintro e w11 ⟨rfl, hf, hb⟩; replace HF10 := hid hf; clear hf hb))
                  go_ret
                  exact ⟨rfl, HF10.out.bel⟩
end Go.Proofs.Ytmkilckoeaekkaa
