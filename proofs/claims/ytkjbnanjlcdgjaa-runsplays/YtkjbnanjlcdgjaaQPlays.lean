/-
  What RunsPlays returns, for any samples and any times that are asked for.
-/
import Derived.Test.YtkjbnanjlcdgjaaQPl
namespace Go.Proofs.Ytkjbnanjlcdgjaa
open Go.RowKit Go.Sort Go.Shelf

theorem ry_cell {B : Nat} {P : Nat → Prop} {w : World} {b y : Nat} {F G : List Sp} (h : Pl B P w b y F G) : ∃ p c, G.length ≤ c ∧ w.heap[y]? = some (.cells #[.slice p G.length c] 29) ∧ (G.length ≤ 1000 → Smp w (.slice p G.length c) G) := by
  obtain ⟨yv, h1⟩ := h.y
  obtain ⟨hs, ho, hh⟩ := h1.row
  obtain ⟨p, c, rfl, hc, -⟩ := own_sl0 ho hh
  exact ⟨p, c, hc, h1.blk, fun hl => own_smp ho hh hl⟩
set_option maxRecDepth 100000 in
set_option maxHeartbeats 16000000 in
theorem plays_any {v fv tv : Value} {L : List Sp} {fs ts : List Int} {w : World} (h : LsA w v L) (hf : IntA w fv fs) (ht : IntA w tv ts) : Calls Try.prog 3 #[v, fv, tv] w fun e w' => e = .returned (.bool true) ∧ Below w.heap.size w w' := by
  obtain ⟨p, c, rfl, hcap, hx⟩ := h.sm
  have HX := hid hx
  have hml := h.ml
  have HTm := hid h.tm
  obtain ⟨pf, cf, rfl, hcf, hmf, hxf⟩ := hf
  obtain ⟨pt, ct, rfl, hct, hmt, hxt⟩ := ht
  have HXf := hid hxf
  have HXt := hid hxt
  unfold maxLen at hmf hmt
  clear hx h hxf hxt
  generalize hn : L.length = n at *
  generalize hnf : fs.length = nf at *
  generalize hnt : ts.length = nt at *
  have HN := hid hn
  have HNf := hid hnf
  have HNt := hid hnt
  clear hn hnf hnt
  go_enter Try.func3, Try.ntmps3
  go_wp2_with (first
    | (go_at_call 6; refine shown_any.mono ?_; rintro e w0 ⟨rfl, hb0⟩; have HB0 := hid hb0; clear hb0)
    | (go_at_call 7; refine (new_any (P := any)).mono ?_; rintro e w1 ⟨b0, rfl, hd, hb1⟩; have HD1 := hid (hd.le HB0.out.size); have HB1 := hid (HB0.out.trans (hb1.mono HB0.out.size)); clear hd hb1))
  have HPl0 : Hid (Pl w.heap.size any (w1.alloc (.cells #[.slice none 0 0] 29)) b0 w1.heap.size [] []) := by
    refine ⟨_, _, _, HD1.out.on ((Below.refl _ _).alloc (Nat.le_refl _) _), ry_new HB1.out.size, fun k h1 h2 => ?_⟩
    have := HD1.out.T_lt k h1
    rcases h2 with e | e
    · omega
    · cases e
  have HBw := hid (HB1.out.alloc HB1.out.size (.cells #[.slice none 0 0] 29))
  clear HD1 HB0 HB1
  generalize (w1.alloc (.cells #[.slice none 0 0] 29)) = W0 at *
  generalize w1.heap.size = y at *
  go_loopw [8, 10] (fun rv i wr => ∃ (k b : Nat), (k ≤ n ∧ k ≤ 150) ∧ i = .int .i64 k ∧ rv = dp b ∧ Hid (Pl w.heap.size any wr b y (runL (L.take k)) (runL (L.take k))) ∧ Hid (Below w.heap.size w wr)) (fun _ i _ => 150 - (intOf i).toNat)
  case atStart => exact ⟨0, b0, by omega, rfl, rfl, HPl0.out, HBw.out⟩
  case round =>
    obtain ⟨k, b, hk, rfl, rfl, HPl, HB⟩ := hrel
    obtain ⟨W1, hW1⟩ : ∃ W, W = wr := ⟨wr, rfl⟩
    subst hW1
    clear HPl0 HBw
    have HLt : Hid ((L.take k).length ≤ k) := List.length_take_le _ _
    have HFl := hid (Nat.le_trans (runL_len (L.take k)) HLt.out)
    by_cases hlt : k < n ∧ k < 150
    · obtain ⟨hlt, h150⟩ := hlt
      have hk' : k < L.length := by rw [HN.out]; exact hlt
      obtain ⟨s, hs⟩ : ∃ s, L[k]? = some s := ⟨L[k], List.getElem?_eq_getElem hk'⟩
      obtain ⟨g, o, kp, kc, rfl, c0, c1, hr⟩ := HX.out k s hs
      have HG := hid (block_lt_of_cell c0)
      have HC := hid (fun wx (hb : Below w.heap.size w wx) => k2On (⟨c0, c1⟩ : K2 g (o + k * 2) s.t (.slice kp (List.length s.vs) kc) w) HG.out hb)
      obtain ⟨d0, d1⟩ := HC.out W1 HB.out
      have HR := hid hr
      have HT := hid (runL_take hs)
      clear hs c0 c1 hr
      generalize hns : List.length s.vs = ns at *
      have HNS := hid hns
      clear hns
      obtain ⟨F', hF'⟩ : ∃ F', F' = runL (L.take (k + 1)) := ⟨_, rfl⟩
      have HF' := hid hF'
      clear hF'
      have HF'l : Hid (F'.length ≤ 150) := by
        show _ ≤ _
        rw [HF'.out]
        have h1 := runL_len (L.take (k + 1))
        have h2 := List.length_take_le (k + 1) L
        omega
      rw [← HF'.out] at HT
      generalize runL (L.take k) = F at *
      have d1a : (W1.alloc (.cells #[] 36)).cell? ⟨g, o + k * 2 + 1, none⟩ = some (.slice kp ns kc) := Lib.cell?_alloc_some _ d1
      go_upto_if 56 with (at_builtin; refine app_P (N := bsz 11) elem48.N vl_len (fun x _ => vl_cells x) rfl _ _ rfl rfl (Own.made Vl.cells 11 36 W1.heap.size W1 (Nat.le_refl _)) rfl ((HR.out.on HB.out).on ((Below.refl _ _).alloc (Nat.le_refl _) _)) (by have := SlAt.bound HR.out; simpa using this) (by decide) (by simp) ?_; intro ov wA hownA hgA hatA; rw [List.nil_append] at hownA; have HOA : Hid (OwnV W1.heap.size wA ov s.vs) := hownA; have HBA : Hid (Below W1.heap.size W1 wA) := (((Below.refl _ _).alloc (Nat.le_refl _) (.cells #[] 36)).trans ((Below.refl _ _).grown hgA (by simp) (fun k e => by cases e; exact Nat.le_refl _))); obtain ⟨po, co, rfl⟩ := own_formN hownA HNS.out; clear hownA hgA hatA)
      have HPA : Hid (Pl w.heap.size (Pn (.slice po ns co)) wA b y F F) := (HPl.out.P (fun x hx _ e => by have := (own_at HOA.out e).1; omega)).on HBA.out
      have HPn : Hid (∀ x, wA.heap.size ≤ x → Pn (.slice po ns co) x) := fun x hx e => by have := (own_at HOA.out e).2; omega
      have HWA := hid (HB.out.trans (HBA.out.mono HB.out.size))
      have HSA := hid (Nat.le_trans HB.out.size HBA.out.size)
      clear d0 d1 d1a HPl HBA
      obtain ⟨d0, d1⟩ := HC.out wA HWA.out
      go_cut [8, 12] from 37 to 206 (fun rv _ wx => ∃ b2, rv = dp b2 ∧ Hid (Pl w.heap.size (Pn (.slice po ns co)) wx b2 y F F) ∧ Hid (Below w.heap.size w wx) ∧ Hid (wA.heap.size ≤ wx.heap.size) ∧ Hid (OwnV W1.heap.size wx (.slice po ns co) s.vs))
      case first =>
        as_aux_lemma =>
          have h5 : (((k : Int) % 6) == 5) = true ∨ (((k : Int) % 6) == 5) = false := by cases (((k : Int) % 6) == 5) <;> simp
          rcases h5 with h5' | h5'
          · have M1 : Hid True := trivial
            go_wp2_with (first
              | (go_at_call 8; refine (p3_clone HPA.out (by have := HFl.out; omega) HSA.out HOA.out).mono ?_; rintro e w2 ⟨b2, rfl, hd2, hb2, ho2⟩; have HD2 := hid hd2; have HW2 := hid (HWA.out.trans (hb2.mono HSA.out)); have HS2 := hid hb2.size; have HO2 := hid ho2; clear hd2 hb2 ho2 d0 d1; obtain ⟨d0, d1⟩ := HC.out w2 HW2.out)
              | (have FIRST := M1; go_at_call 9; refine (p3_add HD2.out s.t (by have := HFl.out; omega) (fun x hx => HPn.out x (Nat.le_trans HS2.out hx)) HW2.out.size HO2.out).mono ?_; rintro e w3 ⟨x3, rfl, hp3, hb3, ho3⟩; have HD3 := hid hp3; have HW3 := hid (HW2.out.trans hb3); have HS3 := hid (Nat.le_trans HS2.out hb3.size); have HO3 := hid ho3; have M2 : Hid True := trivial; clear hp3 hb3 ho3 d0 d1 FIRST M1)
              | (have FIRST := M2; go_at_call 9; refine (p3_add HD3.out 99 (by have := HFl.out; have := addS_len F ⟨s.t, []⟩; omega) (fun x hx => HPn.out x (Nat.le_trans HS3.out hx)) HW3.out.size HO3.out).mono ?_; rintro e w4 ⟨x4, rfl, hp4, hb4, ho4⟩; have HD4 := hid hp4.pl; have HW4 := hid (HW3.out.trans hb4); have HS4 := hid (Nat.le_trans HS3.out hb4.size); have HO4 := hid ho4; clear hp4 hb4 ho4 FIRST M2))
            go_meet
            exact ⟨b2, rfl, HD4.out, HW4.out, HS4.out, HO4.out⟩
          · go_wp2
            go_meet
            exact ⟨b, rfl, HPA.out, HWA.out, Nat.le_refl _, HOA.out⟩
      case rest =>
        obtain ⟨b2, hu8, HP2, HW2, HS2, HO2⟩ := hcut
        subst hu8
        clear d0 d1 HPA HOA HWA
        obtain ⟨d0, d1⟩ := HC.out wc HW2.out
        generalize hqa : (!hasT F s.t) = qa
        have HQa := hid hqa
        clear hqa
        go_upto_region 18 with (go_at_call 9; refine (pl_add (s := s) HP2.out (ownV_row HO2.out HR.out) (by have := HFl.out; omega) (fun x hx => HPn.out x (Nat.le_trans HS2.out hx)) HW2.out.size HO2.out HQa.out).mono ?_; rintro e w5 ⟨rfl, hp5, hb5, ho5⟩; rw [← HT.out] at hp5; have HP5 := hid hp5; have HW5 := hid (HW2.out.trans hb5); have HS5 := hid (Nat.le_trans HS2.out hb5.size); have HO5 := hid ho5; clear hp5 hb5 ho5)
        clear d0 d1 HP2 HO2
        have hS5 := HC.out w5 HW5.out
        go_region_held3 (K2 g (o + k * 2) s.t (.slice kp ns kc)) (((repeat (first | (with_reducible refine k2D ?_))); (with_reducible assumption)))
          (first
          | (refine step_call3 (v := dp y) (v2 := .int .i64 s.t) (v3 := .slice kp ns kc) rfl (.tmp 79) (.tmp 84) (.tmp 89) 27 3 30 rfl (by simp [Act.eval]) (by simp [Act.eval]) (by simp [Act.eval]) enters10 ?_; refine (pl_radd (s := s) (HP5.out.on (Below.refl _ _).drew) (HR.out.on HW5.out.drew) (by have := HFl.out; omega) (fun x hx => HPn.out x (Nat.le_trans HS5.out hx)) HW5.out.drew.size (ownV_on HO5.out (Below.refl _ _).drew) HQa.out).mono ?_; rintro e w6 ⟨rfl, hp6, hb6, ho6⟩; rw [← HT.out] at hp6; refine ⟨_, rfl, ?_⟩; have HP6 := hid hp6; have HB6 : Hid (Below w.heap.size w w6) := HW5.out.trans (((Below.refl _ _).drew).trans hb6); have HO6 := hid ho6; have hS6 := HC.out w6 HB6.out; clear hp6 hb6 ho6 hS5))
        have HW6 := HB6
        clear hS6 HP5 HO5 HB6
        have HOb := hid (ownV_blk HO6.out HNS.out)
        have hnsM : ns ≤ 9223372036854775807 := by obtain ⟨p', c', hv', -, hm', -⟩ := HR.out; rw [HNS.out] at hm'; unfold maxLen at hm'; omega
        go_wp2
        go_loopw [15] (fun q wr => ∃ j : Nat, j ≤ ns ∧ q = .int .i64 j ∧ Hid (OwB wr po ns) ∧ Hid (Kp (fun x => (Value.slice po ns co).ownBlock = some x) w6 wr)) (fun q _ => ns - (intOf q).toNat)
        case atStart => exact ⟨0, by omega, rfl, HOb.out, Kp.refl _ _⟩
        case round =>
          obtain ⟨j, hj, rfl, HOj, HKj⟩ := hrel
          obtain ⟨w7, hw7⟩ : ∃ W, W = wr := ⟨wr, rfl⟩
          subst hw7
          by_cases hjl : j < ns
          · obtain ⟨g7, o7, arr, hpo, hb7, hsz7⟩ := HOj.out (by omega)
            cases hpo
            have hfz := block_frozen hb7
            obtain ⟨a0, a1, a2, a3, a4, a5, a6, a7, a8, a9, a10, z0, z1, z2, z3, z4, z5, z6, z7, z8, z9, z10⟩ := cells11 hb7 (show o7 + j * 11 + 11 ≤ arr.size by omega)
            go_wp2
            go_roundw
            case rel =>
              refine ⟨j + 1, by omega, by go_num, fun _ => ⟨g7, o7, _, rfl, set_block (set_block (set_block (set_block (set_block (set_block (set_block (set_block (set_block (set_block (set_block hb7 _) _) _) _) _) _) _) _) _) _) _, by simp; omega⟩, ?_⟩
              iterate 11 (refine Kp.trans ?_ (Kp.set (T := fun x => (Value.slice (some ⟨g7, o7, none⟩) ns co).ownBlock = some x) rfl _))
              exact HKj.out
            case measure => simp [intOf]; omega
          · have HP7 := hid ((pl_own HP6.out HO6.out HKj.out).P (P' := fun x => x < w7.heap.size) (fun x hx _ => hx))
            have HW7 := hid (HW6.out.trans (HKj.out.below HW6.out.size (fun x e => Nat.le_trans HB.out.size (own_at HO6.out e).1)))
            clear HOj HKj HOb HP6 HO6
            obtain ⟨d0, d1⟩ := HC.out w7 HW7.out
            generalize hgt : getT F' s.t = gt
            generalize hqb : hasT F' s.t = qb
            have HGt : Hid (getT F' s.t = gt ∧ hasT F' s.t = qb) := ⟨hgt, hqb⟩
            clear hgt hqb
            go_upto_region 26 with (first
              | (go_at_call 11; refine (pl_get (Q := fun x => w7.heap.size ≤ x) HP7.out (by have := HF'l.out; omega) (fun _ hx => hx) HGt.out).mono ?_; rintro e w8 ⟨p8, c8, rfl, hr8, hb8⟩; have HR8 := hid hr8; have HP8 := hid (HP7.out.on hb8); have HW8 := hid (HW7.out.trans (hb8.mono HW7.out.size)); have HB8 := hid hb8; clear hr8 hb8 d0 d1; obtain ⟨d0, d1⟩ := HC.out w8 HW8.out)
              | (go_at_call 12; refine (pl_rget HP8.out (by have := HF'l.out; omega) HGt.out).mono ?_; rintro e w9 ⟨p9, c9, rfl, hr9, hb9⟩; have HR9 := hid hr9; have HR8' := hid (row_kp (T := fun _ => False) HR8.out (Kp.of hb9) (fun _ _ => id)); have HP9 := hid (HP8.out.on hb9); have HW9 := hid (HW8.out.trans (hb9.mono HW8.out.size)); have HB9 := hid (HB8.out.trans (hb9.mono HB8.out.size)); clear hr9 hb9 d0 d1)
              | (go_at_call 13; refine (vals_is (c := true) HR8'.out.at HR9.out (decide_eq_true rfl)).mono ?_; rintro e w10 ⟨rfl, hb10⟩; have HR10 := hid (row_kp (T := fun _ => False) HR8'.out (Kp.of hb10) (fun _ _ => id)); have HP10 := hid (HP9.out.on hb10); have HW10 := hid (HW9.out.trans (hb10.mono HW9.out.size)); have HB10 := hid (HB9.out.trans (hb10.mono HB9.out.size)); clear hb10))
            clear HR8 HR8' HR9 HP8 HP9 HW8 HW9 HB8 HB9 HP7
            generalize hng : List.length gt = ng at *
            have HNg := hid hng
            clear hng
            obtain ⟨py, cy, -, hyb, -⟩ := ry_cell HP10.out
            have ky : ∀ d os, (grow (redrawn w10 d) os).cell? ⟨y, 0, none⟩ = some (.slice py F'.length cy) := fun d os => by rw [block_cell (block_on hyb (below_regrown w10 d os))]; rfl
            clear hyb
            have HPg : ∀ d os, Hid (Pl w.heap.size (fun x => x < w7.heap.size) (grow (redrawn w10 d) os) b2 y F' F') := fun d os => HP10.out.on (below_regrown w10 d os)
            refine wp_region_quiet_below (by kernel_rfl) (by kernel_rfl) ?_
            repeat (go_big_quiet_step (first | (go_at_call 14; exact Calls.regrown_of (pl_len (HPg _ _).out (by have := HF'l.out; omega)))))
            refine wpQuiet_nil ?_
            intro _ hw'
            obtain ⟨⟨dr, osr⟩, hw''⟩ := hw'
            subst hw''
            have hb11 := below_regrown w10 dr osr
            have HR11 := hid (row_kp (T := fun _ => False) HR10.out (Kp.of hb11) (fun _ _ => id))
            have HP11 := hid (HP10.out.on hb11)
            have HW11 := hid (HW10.out.trans (hb11.mono HW10.out.size))
            have HB11 := hid (HB10.out.trans (hb11.mono HB10.out.size))
            clear ky HPg hb11 HR10 HP10 HW10 HB10
            generalize grow (redrawn w10 dr) osr = w11 at *
            have HOb := hid (row_blk HR11.out HNg.out)
            have hngM : ng ≤ 9223372036854775807 := by obtain ⟨p', c', hv', -, hm', -⟩ := HR11.out; rw [HNg.out] at hm'; unfold maxLen at hm'; omega
            go_wp2
            go_loopw [21] (fun q wr => ∃ i : Nat, i ≤ ng ∧ q = .int .i64 i ∧ Hid (OwB wr p8 ng) ∧ Hid (Kp (fun x => 0 < ng ∧ (Value.slice p8 ng c8).ownBlock = some x) w11 wr)) (fun q _ => ng - (intOf q).toNat)
            case atStart => exact ⟨0, by omega, rfl, HOb.out, Kp.refl _ _⟩
            case round =>
              obtain ⟨i, hi, rfl, HOi, HKi⟩ := hrel
              obtain ⟨w12, hw12⟩ : ∃ W, W = wr := ⟨wr, rfl⟩
              subst hw12
              by_cases hil : i < ng
              · obtain ⟨g7, o7, arr, hpo, hb7, hsz7⟩ := HOi.out (by omega)
                cases hpo
                have hfz := block_frozen hb7
                obtain ⟨a0, a1, a2, a3, a4, a5, a6, a7, a8, a9, a10, z0, z1, z2, z3, z4, z5, z6, z7, z8, z9, z10⟩ := cells11 hb7 (show o7 + i * 11 + 11 ≤ arr.size by omega)
                go_wp2
                go_roundw
                case rel =>
                  refine ⟨i + 1, by omega, by go_num, fun _ => ⟨g7, o7, _, rfl, set_block (set_block (set_block (set_block (set_block (set_block (set_block (set_block (set_block (set_block (set_block hb7 _) _) _) _) _) _) _) _) _) _) _, by simp; omega⟩, ?_⟩
                  iterate 11 (refine Kp.trans ?_ (Kp.set (T := fun x => 0 < ng ∧ (Value.slice (some ⟨g7, o7, none⟩) ng c8).ownBlock = some x) ⟨by omega, rfl⟩ _))
                  exact HKi.out
                case measure => simp [intOf]; omega
              · have hpt := pl_told (N := w7.heap.size) HP11.out HR11.out HNg.out (fun x h1 h2 => by omega) (fun x h1 => h1) HB11.out.size HKi.out
                have HP12 := hid (hpt.1.P (P' := fun x => x < w12.heap.size) (fun x hx _ => hx))
                have HW12 := hid (HW11.out.trans (hpt.2.mono HW7.out.size))
                clear hpt HOi HKi HOb HP11 HR11 HB11
                have hF1 : F'.length ≤ 150 := HF'l.out
                by_cases hkf : k < nf
                · by_cases hkt : k < nt
                  · obtain ⟨fa, hfa⟩ : ∃ x, fs[k]? = some x := ⟨fs[k]'(by rw [HNf.out]; exact hkf), List.getElem?_eq_getElem _⟩
                    obtain ⟨tz, htz⟩ : ∃ x, ts[k]? = some x := ⟨ts[k]'(by rw [HNt.out]; exact hkt), List.getElem?_eq_getElem _⟩
                    obtain ⟨gf, of, rfl, cf0⟩ := HXf.out k fa hfa
                    obtain ⟨gt', ot, rfl, ct0⟩ := HXt.out k tz htz
                    have HI := hid (fun wx (hb : Below w.heap.size w wx) => kiOn (⟨cf0, ct0⟩ : KI gf (of + k) fa gt' (ot + k) tz w) (block_lt_of_cell cf0) (block_lt_of_cell ct0) hb)
                    clear hfa htz cf0 ct0
                    have hI12 := HI.out w12 HW12.out
                    obtain ⟨RR, hRR⟩ : ∃ RR, rngS F' fa tz = RR := ⟨_, rfl⟩
                    have HRR := hid hRR
                    have HRl : Hid (RR.length ≤ 150) := by show _ ≤ _; rw [← hRR]; exact Nat.le_trans (rng_len _ _ _) hF1
                    clear hRR
                    go_upto_region 33 with fail
                    go_region_held3 (KI gf (of + k) fa gt' (ot + k) tz) (((repeat (first | (with_reducible refine kiD ?_))); (with_reducible assumption)))
                      (first
                      | (refine step_call3 (v := dp b2) (v2 := .int .i64 fa) (v3 := .int .i64 tz) rfl (.tmp 166) (.tmp 170) (.tmp 174) 25 3 3 rfl (by simp [Act.eval]) (by simp [Act.eval]) (by simp [Act.eval]) enters15 ?_; refine (pl_range (Q := fun x => w12.heap.size ≤ x) (HP12.out.on (Below.refl _ _).drew) (by omega) (fun _ hx => hx) HRR.out).mono ?_; rintro e w13 ⟨p13, c13, hs13, rfl, ho13, hh13, hb13⟩; refine ⟨_, rfl, ?_⟩; have hb13' : Below w12.heap.size w12 w13 := (Below.refl _ _).drew.trans hb13; have HO13 := hid ho13; have HH13 := hid hh13; have HP13 := hid (HP12.out.on hb13'); have HB13 := hid hb13'; have HW13 := hid (HW12.out.trans (hb13'.mono HW12.out.size)); have hI13 := HI.out w13 HW13.out; clear ho13 hh13 hb13 hb13' hI12))
                    go_upto_region 34 with fail
                    have HSx := hid (own_smp HO13.out HH13.out (by have := HRl.out; omega))
                    have M1 : Hid True := trivial
                    go_region_held3 (KI gf (of + k) fa gt' (ot + k) tz) (((repeat (first | (with_reducible refine kiD ?_))); (with_reducible assumption)))
                      (first
                      | (have FIRST := M1; refine step_call3 (v := dp y) (v2 := .int .i64 fa) (v3 := .int .i64 tz) rfl (.tmp 177) (.tmp 181) (.tmp 185) 27 3 3 rfl (by simp [Act.eval]) (by simp [Act.eval]) (by simp [Act.eval]) enters17 ?_; refine (pl_rrange (HP13.out.on (Below.refl _ _).drew) (by omega) HRR.out).mono ?_; rintro e w14 ⟨p14, c14, rfl, hs14, hb14⟩; refine ⟨_, rfl, ?_⟩; have hb14' : Below w13.heap.size w13 w14 := (Below.refl _ _).drew.trans hb14; have HS14 := hid hs14; have HB14 := hid hb14'; have HW14 := hid (HW13.out.trans (hb14'.mono HW13.out.size)); have hI14 := HI.out w14 HW14.out; have M2 : Hid True := trivial; clear hs14 hb14 hb14' hI13 FIRST M1)
                      | (have FIRST := M2; refine step_call2 (v := .slice p13 RR.length c13) (v2 := .slice p14 RR.length c14) rfl (.tmp 176) (.tmp 186) 22 22 rfl (by simp [Act.eval]) (by simp [Act.eval]) enters16 ?_; refine (same_is (c := true) (HSx.out.on HB14.out) HS14.out (by have := HRl.out; omega) (by have := HRl.out; omega) (decide_eq_true rfl)).mono ?_; rintro e w15 ⟨rfl, hb15⟩; refine ⟨_, rfl, ?_⟩; have HB15 := hid (HB14.out.trans (hb15.mono HB14.out.size)); have HW15 := hid (HW14.out.trans (hb15.mono HW14.out.size)); have hI15 := HI.out w15 HW15.out; clear hb15 hI14 FIRST M2))
                    have HP15 := hid (HP13.out.on HB15.out)
                    have HO15 := hid (own_kp (T := fun _ => False) HO13.out (Kp.of HB15.out) (fun _ _ => id))
                    have HH15 := hid (HH13.out.on HB15.out)
                    have HBq := hid (HB13.out.trans (HB15.out.mono HB13.out.size))
                    clear hI15 HSx HS14 HB14 HW14 HO13 HH13 HP13 HB13 HB15 HI
                    cases RR with
                    | nil =>
                      go_wp2
                      go_roundw
                      case rel => exact ⟨k + 1, b2, by omega, by go_num, rfl, (by show Pl _ _ _ _ _ _ _; rw [← HF'.out]; exact HP15.out.P (fun _ _ _ => trivial)), HW15.out⟩
                      case measure => simp [intOf]; omega
                    | cons r0 rs =>
                      obtain ⟨p', c', hv', hcx, hx15⟩ := own_sl HO15.out HH15.out (by have := HRl.out; omega)
                      injection hv' with e1 e2 e3
                      subst e1 e3
                      obtain ⟨gx, ox, kpx, kcx, hpx, -, x1, hrx⟩ := hx15 0 r0 rfl
                      cases hpx
                      rw [Nat.zero_mul, Nat.add_zero] at x1
                      have HRx := hid hrx
                      clear hrx hx15 e2
                      generalize hlr : (r0 :: rs).length = lr at *
                      have hlr0 : 0 < lr := by rw [← hlr]; simp
                      clear hlr
                      generalize hnx : List.length r0.vs = nx at *
                      have HNx := hid hnx
                      clear hnx
                      by_cases hnx0 : 0 < nx
                      · have hq1 : decide (0 < (lr : Int)) = true := by simp; omega
                        have hq2 : decide (0 < (nx : Int)) = true := by simp; omega
                        obtain ⟨g7, o7, arr, hpo, hb7, hsz7⟩ := row_blk HRx.out HNx.out hnx0
                        cases hpo
                        have hfz := block_frozen hb7
                        obtain ⟨a0, a1, a2, a3, a4, a5, a6, a7, a8, a9, a10, z0, z1, z2, z3, z4, z5, z6, z7, z8, z9, z10⟩ := cells11 hb7 (show o7 + 11 ≤ arr.size by omega)
                        have HF := hid (fun wx hk => pl_told (N := w12.heap.size) (w' := wx) HP15.out HRx.out HNx.out (fun x h1 h2 => by omega) (fun x h1 => h1) HBq.out.size hk)
                        go_wp2
                        go_roundw
                        case rel =>
                          have hk : ∀ wx, Kp (fun x => 0 < nx ∧ (Value.slice (some ⟨g7, o7, none⟩) nx kcx).ownBlock = some x) w15 wx → Pl w.heap.size any wx b2 y (runL (L.take (k + 1))) (runL (L.take (k + 1))) ∧ Below w.heap.size w wx := fun wx hk => by
                            obtain ⟨q1, q2⟩ := HF.out wx hk
                            rw [← HF'.out]
                            exact ⟨q1.P (fun _ _ _ => trivial), HW15.out.trans (q2.mono HW12.out.size)⟩
                          refine ⟨k + 1, b2, by omega, by go_num, rfl, (hk _ ?_).1, (hk _ ?_).2⟩
                          · iterate 11 (refine Kp.trans ?_ (Kp.set (T := fun x => 0 < nx ∧ (Value.slice (some ⟨g7, o7, none⟩) nx kcx).ownBlock = some x) ⟨by omega, rfl⟩ _))
                            exact Kp.refl _ _
                          · iterate 11 (refine Kp.trans ?_ (Kp.set (T := fun x => 0 < nx ∧ (Value.slice (some ⟨g7, o7, none⟩) nx kcx).ownBlock = some x) ⟨by omega, rfl⟩ _))
                            exact Kp.refl _ _
                        case measure => simp [intOf]; omega
                      · obtain rfl : nx = 0 := by omega
                        have hq1 : decide (0 < (lr : Int)) = true := by simp; omega
                        go_wp2
                        go_roundw
                        case rel => exact ⟨k + 1, b2, by omega, by go_num, rfl, (by show Pl _ _ _ _ _ _ _; rw [← HF'.out]; exact HP15.out.P (fun _ _ _ => trivial)), HW15.out⟩
                        case measure => simp [intOf]; omega
                  · go_wp2
                    go_roundw
                    case rel => exact ⟨k + 1, b2, by omega, by go_num, rfl, (by show Pl _ _ _ _ _ _ _; rw [← HF'.out]; exact HP12.out.P (fun _ _ _ => trivial)), HW12.out⟩
                    case measure => simp [intOf]; omega
                · go_wp2
                  go_roundw
                  case rel => exact ⟨k + 1, b2, by omega, by go_num, rfl, (by show Pl _ _ _ _ _ _ _; rw [← HF'.out]; exact HP12.out.P (fun _ _ _ => trivial)), HW12.out⟩
                  case measure => simp [intOf]; omega
    · as_aux_lemma =>
        have HMem : Hid (∀ s ∈ runL (L.take k), -9223372036854775808 ≤ s.t ∧ s.t ≤ 9223372036854775807) := fun s hs => HTm.out s (List.mem_of_mem_take (runL_mem hs))
        have HF1 : Hid ((runL (L.take k)).length ≤ 150) := by show _ ≤ _; have := HFl.out; omega
        generalize runL (L.take k) = F at *
        go_upto_region 7 with fail
        go_cut [44] from 37 to 206 (fun cv wx => cv = .bool false ∧ wx = W1)
        case first =>
          rcases (show ¬ k < n ∨ (k < n ∧ ¬ k < 150) by omega) with h1 | ⟨h1, h2⟩
          · go_wp2
            go_meet
            exact ⟨rfl, rfl⟩
          · go_wp2
            go_meet
            exact ⟨by simp; omega, rfl⟩
        case rest =>
          obtain ⟨hu44, hwc⟩ := hcut
          subst hu44
          replace hwc := hwc.symm
          subst hwc
          have HAll := hid (rng_all HMem.out)
          have hF1 : F.length ≤ 150 := HF1.out
          obtain ⟨x0, hx0⟩ : ∃ x, spF F = x := ⟨_, rfl⟩
          obtain ⟨x1, hx1⟩ : ∃ x, spL F = x := ⟨_, rfl⟩
          obtain ⟨x2, hx2⟩ : ∃ x, spS F = x := ⟨_, rfl⟩
          have HX0 := hid hx0
          have HX1 := hid hx1
          have HX2 := hid hx2
          clear hx0 hx1 hx2
          go_upto_region 40 with (go_at_call 18; refine (pl_span HPl.out (by have := HF1.out; omega)).mono ?_; rintro e w2 ⟨rfl, hb2⟩; rw [HX0.out, HX1.out, HX2.out]; have HP2 := hid (HPl.out.on hb2); have HW2 := hid (HB.out.trans (hb2.mono HB.out.size)); clear hb2)
          obtain ⟨yv, hry⟩ := HP2.out.y
          have HRy := hid hry
          obtain ⟨py, cy, rfl, hcy, hxy⟩ := ry_sl hry (by omega)
          have HXy := hid hxy
          have HYw := hid (fun wx (hb : Below w2.heap.size w2 wx) => (show KY y (.slice py F.length cy) wx by show wx.cell? _ = _; rw [block_cell (block_on hry.blk hb)]; rfl))
          have HSy := hid (show Smp w2 (.slice py F.length cy) F by obtain ⟨hs, ho, hh⟩ := hry.row; exact own_smp ho hh (by omega))
          clear hry hxy
          have hK2 := HYw.out w2 (Below.refl _ _)
          have M1 : Hid True := trivial
          go_region_held3 (KY y (.slice py F.length cy)) (((repeat (first | (with_reducible refine kyD ?_))); (with_reducible assumption)))
            (first
            | (have FIRST := M1; refine step_call3 (v := dp b) (v2 := .int .i64 (-9223372036854775808)) (v3 := .int .i64 9223372036854775807) rfl (.tmp 213) (.const (.int .i64 (-9223372036854775808))) (.const (.int .i64 9223372036854775807)) 25 3 3 rfl (by simp [Act.eval]) (by simp [Act.eval]) (by simp [Act.eval]) enters15 ?_; refine (pl_range (Q := any) (HP2.out.on (Below.refl _ _).drew) (by omega) (fun _ _ => trivial) HAll.out).mono ?_; rintro e w3 ⟨p3, c3, hs3, rfl, ho3, hh3, hb3⟩; refine ⟨_, rfl, ?_⟩; have hb3' : Below w2.heap.size w2 w3 := (Below.refl _ _).drew.trans hb3; have HS3 := hid (own_smp ho3 hh3 (by omega)); have HB3 := hid hb3'; have hK3 := HYw.out w3 hb3'; have M2 : Hid True := trivial; clear ho3 hh3 hb3 hb3' hK2 FIRST M1)
            | (have FIRST := M2; refine step_call2 (v := .slice p3 F.length c3) (v2 := .slice py F.length cy) rfl (.tmp 214) (.tmp 218) 22 22 rfl (by simp [Act.eval]) (by simp [Act.eval]) enters16 ?_; refine (same_is (c := true) HS3.out (HSy.out.on HB3.out) (by omega) (by omega) (decide_eq_true rfl)).mono ?_; rintro e w4 ⟨rfl, hb4⟩; refine ⟨_, rfl, ?_⟩; have HB4 := hid (HB3.out.trans (hb4.mono HB3.out.size)); have hK4 := HYw.out w4 HB4.out; clear hb4 hK3 FIRST M2))
          all_goals
            have k4 : w4.cell? ⟨y, 0, none⟩ = some (.slice py F.length cy) := HYw.out w4 HB4.out
            have HW4 := hid (HW2.out.trans (HB4.out.mono HW2.out.size))
            by_cases hne : F = []
            · subst hne
              obtain rfl : x0 = 0 := HX0.out.symm
              obtain rfl : x1 = 0 := HX1.out.symm
              obtain rfl : x2 = false := HX2.out.symm
              go_wp2
              go_ret
              exact ⟨rfl, HW4.out⟩
            · have hn0 : 0 < F.length := Nat.pos_of_ne_zero (fun e => hne (List.eq_nil_of_length_eq_zero e))
              obtain ⟨s, hs⟩ : ∃ s, F[0]? = some s := ⟨F[0], List.getElem?_eq_getElem hn0⟩
              obtain ⟨z, hz⟩ : ∃ z, F[F.length - 1]? = some z := ⟨F[F.length - 1], List.getElem?_eq_getElem (by omega)⟩
              obtain ⟨gy, oy, kp, kc, hpy, c0, -, -⟩ := HXy.out 0 s hs
              obtain ⟨gy', oy', kp', kc', hpy', c1, -, -⟩ := HXy.out _ z hz
              cases hpy
              cases hpy'
              have e1 : spF F = s.t := by unfold spF; rw [List.head?_eq_getElem?, hs]; rfl
              have e2 : spL F = z.t := by unfold spL; rw [List.getLast?_eq_getElem?, hz]; rfl
              have e3 : spS F = true := by unfold spS; simp [hne]
              rw [HX0.out] at e1
              rw [HX1.out] at e2
              rw [HX2.out] at e3
              subst e1 e2 e3
              have q0 := cell_onB c0 HB4.out
              have q1 := cell_onB c1 HB4.out
              rw [Nat.zero_mul, Nat.add_zero] at q0
              clear c0 c1 hs hz hne HXy HYw HRy HSy HX HXf HXt HMem HTm HAll
              generalize F.length = nF at *
              have hnn : 0 ≤ (nF : Int) - 1 := by omega
              have htn : ((nF : Int) - 1).toNat = nF - 1 := by omega
              have hnz : ¬ ((nF : Int) = 0) := by omega
              go_wp2_with fail
              go_quiet (fail)
              go_wp2
              go_ret
              exact ⟨by simp, below_drewN HW4.out _⟩
end Go.Proofs.Ytkjbnanjlcdgjaa
