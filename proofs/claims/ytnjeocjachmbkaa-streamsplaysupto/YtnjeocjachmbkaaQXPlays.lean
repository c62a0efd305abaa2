/-
  What StreamsPlays returns, for any room and any streams.
-/
import Derived.Test.YtnjeocjachmbkaaQXPl
namespace Go.Proofs.Ytnjeocjachmbkaa
open Go.RowKit Go.Sort Go.Maps Go.Shelf

theorem ry_new {B : Nat} {P : Nat → Prop} {w : World} {most : Int} (hB : B ≤ w.heap.size) : Ry B P (w.alloc (.cells #[.int .i64 most, .slice none 0 0] 39)) w.heap.size most (.slice none 0 0) [] :=
  ⟨hB, alloc_block _ _, ⟨[], Own.nil _ _ _ _ _, rfl, fun j h s h1 _ => by simp at h1⟩⟩
set_option maxRecDepth 100000 in
set_option maxHeartbeats 8000000 in
theorem plays_any {v : Value} {most : Int} {L : List Sm} {w : World} (_hm : (Lit.int .i64 most).wf = true) (h : LsAt w v L) : Calls Try.prog 4 #[.int .i64 most, v] w fun e w' => e = .returned (.bool true) ∧ Below w.heap.size w w' := by
  obtain ⟨p, c, rfl, hcap, hx⟩ := h.sl
  have HX := hid hx
  have HSz := hid h.sz
  have hml := h.ml
  clear hx h _hm
  generalize hn : L.length = n at *
  have HN := hid hn
  clear hn
  go_enter Try.func4, Try.ntmps4
  go_wp2_with (first
    | (go_at_call 12; refine shown_any.mono ?_; rintro e w0 ⟨rfl, hb0⟩; have HB0 := hid hb0; clear hb0)
    | (go_at_call 13; refine (new_any (P := any)).mono ?_; rintro e w1 ⟨b0, m0, rfl, hd, hb1⟩; have HD1 : Hid (∃ sv, Dk w.heap.size any w1 b0 most sv m0 []) := ⟨_, hd.le HB0.out.size⟩; have HB1 := hid (HB0.out.trans (hb1.mono HB0.out.size)); clear hd hb1))
  have HPl0 : Hid (Pl w.heap.size any (w1.alloc (.cells #[.int .i64 most, .slice none 0 0] 39)) b0 m0 w1.heap.size most [] []) := ⟨dkE_on HD1.out ((Below.refl _ _).alloc (Nat.le_refl _) _), ⟨_, ry_new HB1.out.size⟩⟩
  have HBw := hid (HB1.out.alloc HB1.out.size (.cells #[.int .i64 most, .slice none 0 0] 39))
  generalize (w1.alloc (.cells #[.int .i64 most, .slice none 0 0] 39)) = W0 at *
  generalize w1.heap.size = y at *
  go_loopw [6, 8] (fun dv i wr => ∃ (k b m : Nat), (k ≤ n ∧ k ≤ 100) ∧ i = .int .i64 k ∧ dv = dp b ∧ Hid (Pl w.heap.size any wr b m y most (dictL most (L.take k)) (dictL most (L.take k))) ∧ Hid (Below w.heap.size w wr)) (fun _ i _ => 100 - (intOf i).toNat)
  case atStart => exact ⟨0, b0, m0, by omega, rfl, rfl, HPl0.out, HBw.out⟩
  case round =>
    obtain ⟨k, b, m, hk, rfl, rfl, HPl, HB⟩ := hrel
    obtain ⟨W1, hW1⟩ : ∃ W, W = wr := ⟨wr, rfl⟩
    subst hW1
    clear HPl0 HBw HD1 HB0 HB1
    by_cases hlt : k < n ∧ k < 100
    · obtain ⟨hlt, h100⟩ := hlt
      have hk' : k < L.length := by rw [HN.out]; exact hlt
      obtain ⟨s, hs⟩ : ∃ s, L[k]? = some s := ⟨L[k], List.getElem?_eq_getElem hk'⟩
      obtain ⟨g, o, kp, kc, rfl, c0, c1, hr⟩ := HX.out k s hs
      have HG := hid (block_lt_of_cell c0)
      have HS := hid (⟨c0, c1⟩ : K2 g (o + k * 2) s.nm (.slice kp (List.length s.ks) kc) w)
      obtain ⟨d0, d1⟩ := k2On HS.out HG.out HB.out
      have HR := hid hr
      have HZ := hid (HSz.out s (List.mem_of_getElem? hs))
      have HLt : Hid ((L.take k).length ≤ 99) := by show _ ≤ _; rw [List.length_take]; omega
      have HFl := hid (Nat.le_trans (dictL_len most (L.take k)) HLt.out)
      have HDS : Hid (dictL most (L.take (k + 1)) = addL most (dictL most (L.take k)) s) := by show _ = _; rw [take_snoc hs, dictL_snoc]
      clear hs c0 c1 hr
      have HNk := hid HZ.out.ks
      generalize hns : List.length s.ks = ns at *
      have HNS := hid hns
      clear hns
      generalize dictL most (L.take k) = F at *
      have d1a : (W1.alloc (.cells #[] 25)).cell? ⟨g, o + k * 2 + 1, none⟩ = some (.slice kp ns kc) := Lib.cell?_alloc_some _ d1
      go_upto_region 10 with (at_builtin; refine app_N elem48.N vl_len (fun x _ => vl_cells x) rfl _ _ rfl rfl (Own.made Vl.cells 11 25 W1.heap.size W1 (Nat.le_refl _)) rfl ((HR.out.on HB.out).on ((Below.refl _ _).alloc (Nat.le_refl _) _)) (by have := HNk.out; simp only [List.length_nil, HNS.out]; unfold bsz; simp; omega) (by decide) (by simp) ?_; intro ov wA hownA hgA; rw [List.nil_append] at hownA; have HOA : Hid (OwnV W1.heap.size wA ov s.ks) := hownA; have HBA : Hid (Below W1.heap.size W1 wA) := (((Below.refl _ _).alloc (Nat.le_refl _) (.cells #[] 25)).trans ((Below.refl _ _).grown hgA (by simp) (fun k e => by cases e; exact Nat.le_refl _))); obtain ⟨po, co, rfl⟩ := own_formN hownA HNS.out; clear hownA hgA)
      have HPA : Hid (Pl w.heap.size (Pn (.slice po ns co)) wA b m y most F F) := (HPl.out.P (fun x hx _ e => by have := (own_at HOA.out e).1; omega)).on HBA.out
      have HPn : Hid (∀ x, wA.heap.size ≤ x → Pn (.slice po ns co) x) := fun x hx e => by have := (own_at HOA.out e).2; omega
      clear d0 d1 d1a HPl
      have hBA : w.heap.size ≤ wA.heap.size := Nat.le_trans HB.out.size HBA.out.size
      have h5 : (((k : Int) % 5) == 4) = true ∨ (((k : Int) % 5) == 4) = false := by cases (((k : Int) % 5) == 4) <;> simp
      rcases h5 with h5' | h5'
      · go_upto_region 16 with (first
          | (go_at_call 14; refine (pl_clone HPA.out (by have := HFl.out; omega) hBA HOA.out).mono ?_; rintro e w2 ⟨b2, m2, rfl, hd2, hb2, ho2, -⟩; have HD2 := hid hd2; have HB2' := hid hb2; have HO2' := hid ho2; clear hd2 hb2 ho2)
          | (go_at_call 15; refine (pl_old HD2.out HB2'.out (by have := HFl.out; omega) (fun x hx => HPn.out x (Nat.le_trans HB2'.out.size hx)) hBA HO2'.out).mono ?_; rintro e W2 ⟨x3, rfl, hp3, hb3, ho3⟩; have HP2 := hid hp3; have HBW := hid ((HB2'.out.mono hBA).trans hb3); have HO2 := hid ho3; clear hp3 hb3 ho3 HD2 HB2' HO2'))
        have HW2 := hid (HB.out.trans ((HBA.out.mono HB.out.size).trans HBW.out))
        obtain ⟨d0, d1⟩ := k2On HS.out HG.out HW2.out
        have hwA2 : wA.heap.size ≤ W2.heap.size := HBW.out.size
        go_upto_region 17 with (go_at_call 16; refine (pl_find (s := s) HP2.out (ownV_row HO2.out (by rw [HNS.out]; exact HNk.out)) HZ.out).mono ?_; rintro e w3 ⟨rfl, hb3⟩; have HB3 := hid hb3; clear hb3)
        have HP3 := hid (HP2.out.on HB3.out)
        have HO3 := hid (ownV_on HO2.out HB3.out)
        have HW3 := hid (HW2.out.trans (HB3.out.mono HW2.out.size))
        clear d0 d1
        obtain ⟨d0, d1⟩ := k2On HS.out HG.out HW3.out
        have q0 := cell_regrown d0
        have q1 := cell_regrown d1
        have HRg : ∀ d os, Hid (RowAt (grow (redrawn w3 d) os) (.slice kp ns kc) s.ks) := fun d os => (HR.out.on HW3.out).on (below_regrown w3 d os)
        have HPg : ∀ d os, Hid (Pl w.heap.size (Pn (.slice po ns co)) (grow (redrawn w3 d) os) b2 m2 y most F F) := fun d os => HP3.out.on (below_regrown w3 d os)
        refine wp_region_quiet_below (by kernel_rfl) (by kernel_rfl) ?_
        repeat (go_big_quiet_step (first | (go_at_call 17; exact Calls.regrown_of (pl_rfind (s := s) (HPg _ _).out (by have := HFl.out; omega) (HRg _ _).out))))
        refine wpQuiet_nil ?_
        intro _ hw'
        obtain ⟨⟨dq, osq⟩, hw''⟩ := hw'
        subst hw''
        have HB4 := hid (below_regrown w3 dq osq)
        have HP4 := hid (HP3.out.on HB4.out)
        have HO4 := hid (ownV_on HO3.out HB4.out)
        have HW4 := hid (HW3.out.trans (HB4.out.mono HW3.out.size))
        have HS4 : Hid (wA.heap.size ≤ (grow (redrawn w3 dq) osq).heap.size) := Nat.le_trans hwA2 (Nat.le_trans HB3.out.size HB4.out.size)
        clear d0 d1 q0 q1 HRg HPg HP3 HO3 HP2 HO2 HB3 HB4
        generalize grow (redrawn w3 dq) osq = W4 at *
        obtain ⟨d0, d1⟩ := k2On HS.out HG.out HW4.out
        go_upto_region 19 with (go_at_call 15; refine (pl_add (s := s) HP4.out (ownV_row HO4.out (by rw [HNS.out]; exact HNk.out)) HZ.out (by have := HFl.out; omega) (fun x hx => HPn.out x (Nat.le_trans HS4.out hx)) HW4.out.size HO4.out).mono ?_; rintro e w5 ⟨rfl, hp5, hb5, ho5⟩; have HP5 := hid hp5; have HB5 := hid hb5; have HO5 := hid ho5; clear hp5 hb5 ho5)
        have HW5 := hid (HW4.out.trans HB5.out)
        have HS5 := hid (Nat.le_trans HS4.out HB5.out.size)
        clear d0 d1
        have hS5 := k2On HS.out HG.out HW5.out
        go_region_held3 (K2 g (o + k * 2) s.nm (.slice kp ns kc)) (((repeat (first | (with_reducible refine k2D ?_))); (with_reducible assumption)))
          (first
          | (refine step_call3 (v := dp y) (v2 := .string s.nm) (v3 := .slice kp ns kc) rfl (.tmp 106) (.tmp 111) (.tmp 116) 36 9 40 rfl (by simp [Act.eval]) (by simp [Act.eval]) (by simp [Act.eval]) enters18 ?_; refine (pl_radd (s := s) (HP5.out.on (Below.refl _ _).drew) (HR.out.on HW5.out.drew) HZ.out (by have := HFl.out; omega) (fun x hx => HPn.out x (Nat.le_trans HS5.out hx)) HW5.out.drew.size (ownV_on HO5.out (Below.refl _ _).drew)).mono ?_; rintro e w6 ⟨rfl, hp6, hb6, ho6⟩; refine ⟨_, rfl, ?_⟩; have HP6 := hid hp6; have HB6 : Hid (Below w.heap.size w5 w6) := ((Below.refl _ _).drew).trans hb6; have HO6 := hid ho6; have hS6 := k2On hS5 HG.out HB6.out; clear hp6 hb6 ho6 hS5))
        have HW6 := hid (HW5.out.trans HB6.out)
        clear hS6 HP4 HO4 HP5 HO5
        have HF'l : Hid ((addL most F s).length ≤ 100) := by show _ ≤ _; have := addL_len most F s; have := HFl.out; omega
        rw [← HDS.out] at HP6 HF'l
        generalize hFF : dictL most (L.take (k + 1)) = F' at *
        have HFF := hid hFF
        clear hFF
        have hns2 : ns ≤ 2000000 := HNk.out
        have HOb := hid (ownV_blk HO6.out HNS.out)
        go_wp2
        go_loopw [19] (fun q wr => ∃ j : Nat, j ≤ ns ∧ q = .int .i64 j ∧ Hid (OwB wr po ns) ∧ Hid (Kp (fun x => (Value.slice po ns co).ownBlock = some x) w6 wr)) (fun q _ => ns - (intOf q).toNat)
        case atStart => exact ⟨0, by omega, rfl, HOb.out, Kp.refl _ _⟩
        case round =>
          obtain ⟨j, hj, rfl, HOj, HKj⟩ := hrel
          obtain ⟨w7, hw7⟩ : ∃ W, W = wr := ⟨wr, rfl⟩
          subst hw7
          by_cases hjl : j < ns
          · obtain ⟨g7, arr, hpo, hb7, hsz7⟩ := HOj.out (by omega)
            cases hpo
            have hfz := block_frozen hb7
            obtain ⟨a0, a1, a2, a3, a4, a5, a6, a7, a8, a9, a10, z0, z1, z2, z3, z4, z5, z6, z7, z8, z9, z10⟩ := cells11 hb7 (show j * 11 + 11 ≤ arr.size by omega)
            go_wp2
            go_roundw
            case rel =>
              refine ⟨j + 1, by omega, by go_num, fun _ => ⟨g7, _, rfl, set_block (set_block (set_block (set_block (set_block (set_block (set_block (set_block (set_block (set_block (set_block hb7 _) _) _) _) _) _) _) _) _) _) _, by simp; omega⟩, ?_⟩
              iterate 11 (refine Kp.trans ?_ (Kp.set (T := fun x => (Value.slice (some ⟨g7, 0, none⟩) ns co).ownBlock = some x) rfl _))
              exact HKj.out
            case measure => simp [intOf]; omega
          · have hjn : j = ns := by omega
            subst hjn
            have HP7 := hid (pl_own HP6.out HO6.out HKj.out)
            have HW7 := hid (HW6.out.trans (kp_own HO6.out HKj.out HB.out.size HW6.out.size))
            clear HOj HKj HOb HP6 HO6
            obtain ⟨svy, hry⟩ := HP7.out.y
            obtain ⟨hsy, hoy, hhy⟩ := hry.row
            obtain ⟨py, cy, rfl⟩ := own_formN hoy hhy.1
            have ky : ∀ d os o, (grow (redrawn w7 d) os).cell? ⟨y, o, none⟩ = (#[.int .i64 most, .slice py F'.length cy] : Array Value)[o]? := fun d os o => block_cell (block_on hry.blk (below_regrown w7 d os)) o
            clear hry hoy hhy
            have HPg : ∀ d os, Hid (Pl w.heap.size (Pn (.slice po j co)) (grow (redrawn w7 d) os) b2 m2 y most F' F') := fun d os => HP7.out.on (below_regrown w7 d os)
            go_wp2_with fail
            refine wp_region_quiet_below (by kernel_rfl) (by kernel_rfl) ?_
            repeat (go_big_quiet_step (first | (go_at_call 19; exact Calls.regrown_of (pl_len (HPg _ _).out))))
            refine wpQuiet_nil ?_
            intro _ hw'
            obtain ⟨⟨dr, osr⟩, hw''⟩ := hw'
            subst hw''
            have HB8 := hid (below_regrown w7 dr osr)
            have HP8 := hid (HP7.out.on HB8.out)
            have HW8 := hid (HW7.out.trans (HB8.out.mono HW7.out.size))
            clear ky HPg HP7 HB8
            generalize grow (redrawn w7 dr) osr = w8 at *
            obtain ⟨d0, -⟩ := k2On HS.out HG.out HW8.out
            have HdW := hid (fun (x : World) (hx : Below w8.heap.size w8 x) => (k2On HS.out HG.out (HW8.out.trans (hx.mono HW8.out.size))).1)
            go_wp2_with (first
              | (go_at_call 20; refine (pl_of (nm := s.nm) HP8.out (by have := HF'l.out; omega)).mono ?_; rintro e w9 ⟨p9, c9, rfl, hi9, hb9⟩; have HI9 := hid hi9; have HB9 := hid hb9; have d9 := HdW.out w9 hb9; clear hi9 hb9 d0)
              | (go_at_call 21; refine (pl_rof (nm := s.nm) (HP8.out.on HB9.out) (by have := HF'l.out; omega)).mono ?_; rintro e w10 ⟨p10, c10, rfl, hi10, hb10⟩; have HI10 := hid hi10; have HI9' := hid (HI9.out.on hb10); have HB10 := hid (HB9.out.trans (hb10.mono HB9.out.size)); clear hi10 hb10))
            clear d9
            have hlo := ofL_len s.nm 0 F'
            generalize hlo' : (ofL s.nm 0 F').length = lo at *
            have HLo := hid hlo'
            have hc9 : lo ≤ c9 := by obtain ⟨p', c', hv', hc', -⟩ := HI9.out; rw [hlo'] at hc' hv'; injection hv' with _ _ h3; rw [h3]; exact hc'.1
            have hc10 : lo ≤ c10 := by obtain ⟨p', c', hv', hc', -⟩ := HI10.out; rw [hlo'] at hc' hv'; injection hv' with _ _ h3; rw [h3]; exact hc'.1
            have hlo100 : lo ≤ 100 := Nat.le_trans hlo HF'l.out
            clear hlo' hlo
            go_loopw [22] (fun q w11 => ∃ i : Nat, i ≤ lo ∧ q = .int .i64 i ∧ Hid (Below w10.heap.size w10 w11)) (fun q _ => lo - (intOf q).toNat)
            case atStart => exact ⟨0, by omega, rfl, Below.refl _ _⟩
            case round =>
              obtain ⟨i, hi, rfl, HB11⟩ := hrel
              obtain ⟨w11, hw11⟩ : ∃ W, W = wr := ⟨wr, rfl⟩
              subst hw11
              by_cases hil : i < lo
              · obtain ⟨z, hz⟩ : ∃ z, (ofL s.nm 0 F')[i]? = some z := ⟨(ofL s.nm 0 F')[i]'(by rw [HLo.out]; exact hil), List.getElem?_eq_getElem _⟩
                obtain ⟨gI, oI, hpi, e0⟩ := ints_cell (HI9'.out.on HB11.out) hz
                obtain ⟨gJ, oJ, hpj, e1⟩ := ints_cell (HI10.out.on HB11.out) hz
                cases hpi
                cases hpj
                clear hz
                go_wp2_with fail
                go_quiet (fail)
                go_wp2
                go_roundw
                case rel => exact ⟨i + 1, by omega, by go_num, below_drewN HB11.out _⟩
                case measure => simp [intOf]; omega
              · have hin : i = lo := by omega
                subst hin
                have HB12 := hid (HB10.out.trans (HB11.out.mono HB10.out.size))
                go_wp2
                go_roundw
                case rel => exact ⟨k + 1, b2, m2, by omega, by go_num, rfl, (by show Pl _ _ _ _ _ _ _ _ _; rw [HFF.out]; exact (HP8.out.on HB12.out).P (fun _ _ _ => trivial)), HW8.out.trans (HB12.out.mono HW8.out.size)⟩
                case measure => simp [intOf]; omega
      · go_upto_region 16 with fail
        have HP2 := HPA
        have HBW := hid (Below.refl w.heap.size wA)
        have HO2 := HOA
        obtain ⟨b2, hb2⟩ : ∃ x, x = b := ⟨b, rfl⟩
        subst hb2
        obtain ⟨m2, hm2⟩ : ∃ x, x = m := ⟨m, rfl⟩
        subst hm2
        have HW2 := hid (HB.out.trans ((HBA.out.mono HB.out.size).trans HBW.out))
        obtain ⟨d0, d1⟩ := k2On HS.out HG.out HW2.out
        have hwA2 : wA.heap.size ≤ wA.heap.size := HBW.out.size
        go_upto_region 17 with (go_at_call 16; refine (pl_find (s := s) HP2.out (ownV_row HO2.out (by rw [HNS.out]; exact HNk.out)) HZ.out).mono ?_; rintro e w3 ⟨rfl, hb3⟩; have HB3 := hid hb3; clear hb3)
        have HP3 := hid (HP2.out.on HB3.out)
        have HO3 := hid (ownV_on HO2.out HB3.out)
        have HW3 := hid (HW2.out.trans (HB3.out.mono HW2.out.size))
        clear d0 d1
        obtain ⟨d0, d1⟩ := k2On HS.out HG.out HW3.out
        have q0 := cell_regrown d0
        have q1 := cell_regrown d1
        have HRg : ∀ d os, Hid (RowAt (grow (redrawn w3 d) os) (.slice kp ns kc) s.ks) := fun d os => (HR.out.on HW3.out).on (below_regrown w3 d os)
        have HPg : ∀ d os, Hid (Pl w.heap.size (Pn (.slice po ns co)) (grow (redrawn w3 d) os) b2 m2 y most F F) := fun d os => HP3.out.on (below_regrown w3 d os)
        refine wp_region_quiet_below (by kernel_rfl) (by kernel_rfl) ?_
        repeat (go_big_quiet_step (first | (go_at_call 17; exact Calls.regrown_of (pl_rfind (s := s) (HPg _ _).out (by have := HFl.out; omega) (HRg _ _).out))))
        refine wpQuiet_nil ?_
        intro _ hw'
        obtain ⟨⟨dq, osq⟩, hw''⟩ := hw'
        subst hw''
        have HB4 := hid (below_regrown w3 dq osq)
        have HP4 := hid (HP3.out.on HB4.out)
        have HO4 := hid (ownV_on HO3.out HB4.out)
        have HW4 := hid (HW3.out.trans (HB4.out.mono HW3.out.size))
        have HS4 : Hid (wA.heap.size ≤ (grow (redrawn w3 dq) osq).heap.size) := Nat.le_trans hwA2 (Nat.le_trans HB3.out.size HB4.out.size)
        clear d0 d1 q0 q1 HRg HPg HP3 HO3 HP2 HO2 HB3 HB4
        generalize grow (redrawn w3 dq) osq = W4 at *
        obtain ⟨d0, d1⟩ := k2On HS.out HG.out HW4.out
        go_upto_region 19 with (go_at_call 15; refine (pl_add (s := s) HP4.out (ownV_row HO4.out (by rw [HNS.out]; exact HNk.out)) HZ.out (by have := HFl.out; omega) (fun x hx => HPn.out x (Nat.le_trans HS4.out hx)) HW4.out.size HO4.out).mono ?_; rintro e w5 ⟨rfl, hp5, hb5, ho5⟩; have HP5 := hid hp5; have HB5 := hid hb5; have HO5 := hid ho5; clear hp5 hb5 ho5)
        have HW5 := hid (HW4.out.trans HB5.out)
        have HS5 := hid (Nat.le_trans HS4.out HB5.out.size)
        clear d0 d1
        have hS5 := k2On HS.out HG.out HW5.out
        go_region_held3 (K2 g (o + k * 2) s.nm (.slice kp ns kc)) (((repeat (first | (with_reducible refine k2D ?_))); (with_reducible assumption)))
          (first
          | (refine step_call3 (v := dp y) (v2 := .string s.nm) (v3 := .slice kp ns kc) rfl (.tmp 106) (.tmp 111) (.tmp 116) 36 9 40 rfl (by simp [Act.eval]) (by simp [Act.eval]) (by simp [Act.eval]) enters18 ?_; refine (pl_radd (s := s) (HP5.out.on (Below.refl _ _).drew) (HR.out.on HW5.out.drew) HZ.out (by have := HFl.out; omega) (fun x hx => HPn.out x (Nat.le_trans HS5.out hx)) HW5.out.drew.size (ownV_on HO5.out (Below.refl _ _).drew)).mono ?_; rintro e w6 ⟨rfl, hp6, hb6, ho6⟩; refine ⟨_, rfl, ?_⟩; have HP6 := hid hp6; have HB6 : Hid (Below w.heap.size w5 w6) := ((Below.refl _ _).drew).trans hb6; have HO6 := hid ho6; have hS6 := k2On hS5 HG.out HB6.out; clear hp6 hb6 ho6 hS5))
        have HW6 := hid (HW5.out.trans HB6.out)
        clear hS6 HP4 HO4 HP5 HO5
        have HF'l : Hid ((addL most F s).length ≤ 100) := by show _ ≤ _; have := addL_len most F s; have := HFl.out; omega
        rw [← HDS.out] at HP6 HF'l
        generalize hFF : dictL most (L.take (k + 1)) = F' at *
        have HFF := hid hFF
        clear hFF
        have hns2 : ns ≤ 2000000 := HNk.out
        have HOb := hid (ownV_blk HO6.out HNS.out)
        go_wp2
        go_loopw [19] (fun q wr => ∃ j : Nat, j ≤ ns ∧ q = .int .i64 j ∧ Hid (OwB wr po ns) ∧ Hid (Kp (fun x => (Value.slice po ns co).ownBlock = some x) w6 wr)) (fun q _ => ns - (intOf q).toNat)
        case atStart => exact ⟨0, by omega, rfl, HOb.out, Kp.refl _ _⟩
        case round =>
          obtain ⟨j, hj, rfl, HOj, HKj⟩ := hrel
          obtain ⟨w7, hw7⟩ : ∃ W, W = wr := ⟨wr, rfl⟩
          subst hw7
          by_cases hjl : j < ns
          · obtain ⟨g7, arr, hpo, hb7, hsz7⟩ := HOj.out (by omega)
            cases hpo
            have hfz := block_frozen hb7
            obtain ⟨a0, a1, a2, a3, a4, a5, a6, a7, a8, a9, a10, z0, z1, z2, z3, z4, z5, z6, z7, z8, z9, z10⟩ := cells11 hb7 (show j * 11 + 11 ≤ arr.size by omega)
            go_wp2
            go_roundw
            case rel =>
              refine ⟨j + 1, by omega, by go_num, fun _ => ⟨g7, _, rfl, set_block (set_block (set_block (set_block (set_block (set_block (set_block (set_block (set_block (set_block (set_block hb7 _) _) _) _) _) _) _) _) _) _) _, by simp; omega⟩, ?_⟩
              iterate 11 (refine Kp.trans ?_ (Kp.set (T := fun x => (Value.slice (some ⟨g7, 0, none⟩) ns co).ownBlock = some x) rfl _))
              exact HKj.out
            case measure => simp [intOf]; omega
          · have hjn : j = ns := by omega
            subst hjn
            have HP7 := hid (pl_own HP6.out HO6.out HKj.out)
            have HW7 := hid (HW6.out.trans (kp_own HO6.out HKj.out HB.out.size HW6.out.size))
            clear HOj HKj HOb HP6 HO6
            obtain ⟨svy, hry⟩ := HP7.out.y
            obtain ⟨hsy, hoy, hhy⟩ := hry.row
            obtain ⟨py, cy, rfl⟩ := own_formN hoy hhy.1
            have ky : ∀ d os o, (grow (redrawn w7 d) os).cell? ⟨y, o, none⟩ = (#[.int .i64 most, .slice py F'.length cy] : Array Value)[o]? := fun d os o => block_cell (block_on hry.blk (below_regrown w7 d os)) o
            clear hry hoy hhy
            have HPg : ∀ d os, Hid (Pl w.heap.size (Pn (.slice po j co)) (grow (redrawn w7 d) os) b2 m2 y most F' F') := fun d os => HP7.out.on (below_regrown w7 d os)
            go_wp2_with fail
            refine wp_region_quiet_below (by kernel_rfl) (by kernel_rfl) ?_
            repeat (go_big_quiet_step (first | (go_at_call 19; exact Calls.regrown_of (pl_len (HPg _ _).out))))
            refine wpQuiet_nil ?_
            intro _ hw'
            obtain ⟨⟨dr, osr⟩, hw''⟩ := hw'
            subst hw''
            have HB8 := hid (below_regrown w7 dr osr)
            have HP8 := hid (HP7.out.on HB8.out)
            have HW8 := hid (HW7.out.trans (HB8.out.mono HW7.out.size))
            clear ky HPg HP7 HB8
            generalize grow (redrawn w7 dr) osr = w8 at *
            obtain ⟨d0, -⟩ := k2On HS.out HG.out HW8.out
            have HdW := hid (fun (x : World) (hx : Below w8.heap.size w8 x) => (k2On HS.out HG.out (HW8.out.trans (hx.mono HW8.out.size))).1)
            go_wp2_with (first
              | (go_at_call 20; refine (pl_of (nm := s.nm) HP8.out (by have := HF'l.out; omega)).mono ?_; rintro e w9 ⟨p9, c9, rfl, hi9, hb9⟩; have HI9 := hid hi9; have HB9 := hid hb9; have d9 := HdW.out w9 hb9; clear hi9 hb9 d0)
              | (go_at_call 21; refine (pl_rof (nm := s.nm) (HP8.out.on HB9.out) (by have := HF'l.out; omega)).mono ?_; rintro e w10 ⟨p10, c10, rfl, hi10, hb10⟩; have HI10 := hid hi10; have HI9' := hid (HI9.out.on hb10); have HB10 := hid (HB9.out.trans (hb10.mono HB9.out.size)); clear hi10 hb10))
            clear d9
            have hlo := ofL_len s.nm 0 F'
            generalize hlo' : (ofL s.nm 0 F').length = lo at *
            have HLo := hid hlo'
            have hc9 : lo ≤ c9 := by obtain ⟨p', c', hv', hc', -⟩ := HI9.out; rw [hlo'] at hc' hv'; injection hv' with _ _ h3; rw [h3]; exact hc'.1
            have hc10 : lo ≤ c10 := by obtain ⟨p', c', hv', hc', -⟩ := HI10.out; rw [hlo'] at hc' hv'; injection hv' with _ _ h3; rw [h3]; exact hc'.1
            have hlo100 : lo ≤ 100 := Nat.le_trans hlo HF'l.out
            clear hlo' hlo
            go_loopw [22] (fun q w11 => ∃ i : Nat, i ≤ lo ∧ q = .int .i64 i ∧ Hid (Below w10.heap.size w10 w11)) (fun q _ => lo - (intOf q).toNat)
            case atStart => exact ⟨0, by omega, rfl, Below.refl _ _⟩
            case round =>
              obtain ⟨i, hi, rfl, HB11⟩ := hrel
              obtain ⟨w11, hw11⟩ : ∃ W, W = wr := ⟨wr, rfl⟩
              subst hw11
              by_cases hil : i < lo
              · obtain ⟨z, hz⟩ : ∃ z, (ofL s.nm 0 F')[i]? = some z := ⟨(ofL s.nm 0 F')[i]'(by rw [HLo.out]; exact hil), List.getElem?_eq_getElem _⟩
                obtain ⟨gI, oI, hpi, e0⟩ := ints_cell (HI9'.out.on HB11.out) hz
                obtain ⟨gJ, oJ, hpj, e1⟩ := ints_cell (HI10.out.on HB11.out) hz
                cases hpi
                cases hpj
                clear hz
                go_wp2_with fail
                go_quiet (fail)
                go_wp2
                go_roundw
                case rel => exact ⟨i + 1, by omega, by go_num, below_drewN HB11.out _⟩
                case measure => simp [intOf]; omega
              · have hin : i = lo := by omega
                subst hin
                have HB12 := hid (HB10.out.trans (HB11.out.mono HB10.out.size))
                go_wp2
                go_roundw
                case rel => exact ⟨k + 1, b2, m2, by omega, by go_num, rfl, (by show Pl _ _ _ _ _ _ _ _ _; rw [HFF.out]; exact (HP8.out.on HB12.out).P (fun _ _ _ => trivial)), HW8.out.trans (HB12.out.mono HW8.out.size)⟩
                case measure => simp [intOf]; omega
    · obtain ⟨K0, hK0⟩ : ∃ K0, K0 = k := ⟨k, rfl⟩
      subst hK0
      have HKA : Hid ((L.take K0).length ≤ 100) := by show _ ≤ _; rw [List.length_take]; omega
      have hF100 := Nat.le_trans (dictL_len most (L.take K0)) HKA.out
      rcases (show ¬ K0 < n ∨ (K0 < n ∧ ¬ K0 < 100) by omega) with h1 | ⟨h1, h2⟩
      all_goals
        generalize dictL most (L.take K0) = F at *
        obtain ⟨svy, hry⟩ := HPl.out.y
        have HBk := hid hry.blk
        obtain ⟨py, cy, rfl, hcy, hxy⟩ := ry_sl hry (by omega)
        have HXy := hid hxy
        clear hry hxy
        have hkn : inB F (-1) = false := by simp [inB]
        have hke : inB F (F.length : Int) = false := by simp [inB]
        have HKn : Hid (keyS F (-1) = ⟨⟨#[]⟩, []⟩ ∧ inB F (-1) = false) := ⟨keyS_out hkn, hkn⟩
        have HKe : Hid (keyS F (F.length : Int) = ⟨⟨#[]⟩, []⟩ ∧ inB F (F.length : Int) = false) := ⟨keyS_out hke, hke⟩
        clear hkn hke
        generalize hnF : F.length = nF at *
        have HNF := hid hnF
        clear hnF
        go_wp2
        go_loopw [23] (fun iv w4 => ∃ j : Nat, j ≤ nF + 2 ∧ (∃ i : Int, iv = .int .i64 i ∧ i + 1 = (j : Int)) ∧ Hid (Below W1.heap.size W1 w4)) (fun iv _ => nF + 2 - (intOf iv + 1).toNat)
        case atStart => exact ⟨0, by omega, ⟨-1, rfl, by omega⟩, Below.refl _ _⟩
        case round =>
          obtain ⟨j, hj, ⟨i, rfl, hij⟩, HB4⟩ := hrel
          obtain ⟨w4, hw4⟩ : ∃ W, W = wr := ⟨wr, rfl⟩
          subst hw4
          have k4 := block_cell (block_on HBk.out HB4.out)
          have HP4 := hid (HPl.out.on HB4.out)
          have HW4 := hid (HB.out.trans (HB4.out.mono HB.out.size))
          have HBkW := hid (fun (x : World) (hx : Below w4.heap.size w4 x) => block_cell (block_on HBk.out (HB4.out.trans (hx.mono HB4.out.size))))
          by_cases hj0 : j = 0
          · obtain rfl : i = -1 := by omega
            clear hij
            go_wp2_with (go_at_call 22; refine (pl_keys HP4.out (by rw [HNF.out]; omega) HKn.out).mono ?_; rintro e w5 ⟨p5, c5, rfl, -, hb5⟩; have HB5 := hid (HB4.out.trans (hb5.mono HB4.out.size)); have k5 := HBkW.out w5 hb5; clear hb5 k4)
            go_roundw
            case rel => exact ⟨1, by omega, ⟨_, rfl, by omega⟩, HB5.out⟩
            case measure => simp [intOf] <;> omega
          · by_cases hjl : j ≤ nF
            · obtain ⟨q, rfl⟩ : ∃ q : Nat, i = (q : Int) := ⟨i.toNat, by omega⟩
              have hq : q < nF := by omega
              obtain ⟨t, ht⟩ : ∃ t, F[q]? = some t := ⟨F[q]'(by rw [HNF.out]; exact hq), List.getElem?_eq_getElem _⟩
              have HKq := hid (keyS_in ht)
              obtain ⟨g, o, kp, kc, rfl, c0, c1, hr⟩ := HXy.out q t ht
              have HKw := hid (fun (x : World) (hx : Below W1.heap.size W1 x) => (⟨cell_onB c0 hx, cell_onB c1 hx⟩ : K2 g (o + q * 2) t.nm (.slice kp (List.length t.ks) kc) x))
              have HRt := hid hr.at
              have HIJ := hid hij
              clear ht c0 c1 hr hij
              generalize hnt : List.length t.ks = nt at *
              have HNt := hid hnt
              clear hnt
              go_wp2_with (first
                | (go_at_call 22; refine (pl_keys HP4.out (by rw [HNF.out]; omega) HKq.out).mono ?_; rintro e w5 ⟨p5, c5, rfl, hr5, hb5⟩; have HB5 := hid (HB4.out.trans (hb5.mono HB4.out.size)); have HR5 := hid hr5; have k5 := HBkW.out w5 hb5; obtain ⟨e0, e1⟩ := HKw.out w5 HB5.out; clear hb5 hr5 k4)
                | (go_at_call 23; refine (same_is (c := true) (HR5.out) (HRt.out.on HB5.out) (by simp)).mono ?_; rintro e w6 ⟨rfl, hb6⟩; have HB6 := hid (HB5.out.trans (hb6.mono HB5.out.size)); clear hb6))
              go_roundw
              case rel => exact ⟨j + 1, by omega, ⟨_, rfl, by have := HIJ.out; omega⟩, HB6.out⟩
              case measure => simp [intOf]; omega
            · by_cases hje : j = nF + 1
              · obtain rfl : i = (nF : Int) := by omega
                clear hij
                go_wp2_with (go_at_call 22; refine (pl_keys HP4.out (by rw [HNF.out]; omega) HKe.out).mono ?_; rintro e w5 ⟨p5, c5, rfl, -, hb5⟩; have HB5 := hid (HB4.out.trans (hb5.mono HB4.out.size)); have k5 := HBkW.out w5 hb5; clear hb5 k4)
                go_roundw
                case rel => exact ⟨j + 1, by omega, ⟨_, rfl, by omega⟩, HB5.out⟩
                case measure => simp [intOf]; omega
              · obtain rfl : i = (nF : Int) + 1 := by omega
                clear hij
                go_wp2
                go_ret
                exact ⟨rfl, HW4.out⟩
end Go.Proofs.Ytnjeocjachmbkaa
