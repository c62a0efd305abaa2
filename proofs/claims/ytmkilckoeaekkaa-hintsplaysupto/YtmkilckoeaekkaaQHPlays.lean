/-
  HintsPlays's walk.
-/
import Derived.Test.YtmkilckoeaekkaaQHOp
import Derived.Test.YtmkilckoeaekkaaQSMath
import Derived.Deep.DeepCutAuto
import Derived.Deep.QuietTactic
import Derived.BigQuiet
namespace Go.Proofs.Ytmkilckoeaekkaa
open Go.RowKit Go.Sort Go.Maps Go.Shelf

abbrev Sh (b o : Nat) (x : Oc) (w : World) : Prop := (w.cell? ⟨b, o + 1, none⟩ = some (.string x.nm) ∧ w.cell? ⟨b, o + 1 + 1, none⟩ = some x.ks ∧ w.cell? ⟨b, o + 1 + 2, none⟩ = some x.vs) ∧ w.cell? ⟨b, o + 4, none⟩ = some (.string x.sc) ∧ w.cell? ⟨b, o + 4 + 1, none⟩ = some x.pk ∧ w.cell? ⟨b, o + 4 + 2, none⟩ = some (.int .i64 x.t) ∧ w.cell? ⟨b, o + 4 + 3, none⟩ = some x.pv
theorem sh_of {b o : Nat} {x : Oc} {w : World} (h : So b o x w) : Sh b o x w := ⟨⟨h.2.1 0 _ rfl, h.2.1 1 _ rfl, h.2.1 2 _ rfl⟩, h.2.2 0 _ rfl, h.2.2 1 _ rfl, h.2.2 2 _ rfl, h.2.2 3 _ rfl⟩
theorem shD {b o : Nat} {x : Oc} {w : World} (h : Sh b o x w) : Sh b o x w.drew := h
theorem shB {b o B : Nat} {x : Oc} {w w' : World} (h : Sh b o x w) (hb : Below B w w') (hB : b < B) : Sh b o x w' :=
  ⟨⟨(hb.cell (p := ⟨b, o + 1, none⟩) hB).trans h.1.1, (hb.cell (p := ⟨b, o + 1 + 1, none⟩) hB).trans h.1.2.1, (hb.cell (p := ⟨b, o + 1 + 2, none⟩) hB).trans h.1.2.2⟩, (hb.cell (p := ⟨b, o + 4, none⟩) hB).trans h.2.1, (hb.cell (p := ⟨b, o + 4 + 1, none⟩) hB).trans h.2.2.1, (hb.cell (p := ⟨b, o + 4 + 2, none⟩) hB).trans h.2.2.2.1, (hb.cell (p := ⟨b, o + 4 + 3, none⟩) hB).trans h.2.2.2.2⟩
abbrev EQ (b o q : Nat) (v1 v2 : Value) (w : World) : Prop := w.cell? ⟨b, o, none⟩ = some v1 ∧ w.cell? ⟨q, 0, none⟩ = some v2
theorem eqD {b o q : Nat} {v1 v2 : Value} {w : World} (h : EQ b o q v1 v2 w) : EQ b o q v1 v2 w.drew := h
abbrev EE (b o1 o2 : Nat) (v1 v2 : Value) (w : World) : Prop := w.cell? ⟨b, o1, none⟩ = some v1 ∧ w.cell? ⟨b, o2, none⟩ = some v2
theorem eeD {b o1 o2 : Nat} {v1 v2 : Value} {w : World} (h : EE b o1 o2 v1 v2 w) : EE b o1 o2 v1 v2 w.drew := h
theorem below_drewN {B : Nat} {a w : World} (h : Below B a w) (n : Nat) : Below B a (w.drewN n) := ⟨h.os, h.tape, h.output, h.size, h.block⟩
theorem names_at {B : Nat} {w : World} {p : Option Addr} {n c i : Nat} {A : List ByteArray} {nm : ByteArray} (h : Ho B w (.slice p n c) A) (hk : A[i]? = some nm) : ∃ b o, p = some ⟨b, o, none⟩ ∧ b < B ∧ (∀ w', Below B w w' → w'.cell? ⟨b, o + i, none⟩ = some (.string nm)) ∧ nm.size ≤ 562949953421312 := by
  obtain ⟨p', cap, hv, hc, hx⟩ := h.sl
  cases hv
  obtain ⟨b, o, hp, hQ, hj⟩ := hx (fun e => by rw [e] at hk; cases hk)
  refine ⟨b, o, hp, hQ, fun w' hb => ?_, h.each nm (List.mem_of_getElem? hk)⟩
  have := hj i nm hk 0 (.string nm) rfl
  rw [Nat.mul_one, Nat.add_zero] at this
  exact (hb.cell (p := ⟨b, o + i, none⟩) hQ).trans this
set_option maxRecDepth 100000 in
set_option maxHeartbeats 40000000 in
theorem plays_any {w : World} {ov nv qv : Value} {os : List Oc} {A : List ByteArray} {ns : List (Nd × List Int)} (ho : SlAt (fun k => k < w.heap.size) Oc.cells 8 w ov os) (hg : ∀ x ∈ os, GoodO w x) (hz : ∀ x ∈ os, x.kc.length ≤ 1048576 ∧ x.vc.length ≤ 1048576)
    (ha : Ho w.heap.size w nv A) (hq : Qn (fun k => k < w.heap.size) w qv ns) (hsz : ∀ y ∈ ns, y.1.s.size ≤ 562949953421312) :
    Calls Try.prog 3 #[ov, nv, .agg #[qv]] w fun e w' => e = .returned (.bool true) ∧ Below w.heap.size w w' := by
  have HO := hid ho
  have HG := hid hg
  have HZ := hid hz
  have HA := hid ha
  have HQ := hid hq
  have HS := hid hsz
  obtain ⟨po, co, rfl, ho1, ho2⟩ := ho.form
  obtain ⟨pa, ca, rfl, ha1, ha2⟩ := ha.sl.form
  obtain ⟨pq, cq, rfl, hq1, hq2⟩ := hq.sl.form
  clear ho hg hz ha hq hsz
  unfold maxLen at ho2 ha2 hq2
  generalize hno : os.length = no at *
  generalize hna : A.length = na at *
  generalize hnq : ns.length = nQ at *
  have HNo := hid hno
  have HNa := hid hna
  have HNq := hid hnq
  clear hno hna hnq
  have HBx0 : Hid ((w.alloc (.cells #[.slice pq nQ cq] 26)).heap[w.heap.size]? = some (.cells #[.slice pq nQ cq] 26)) := alloc_block _ _
  have HW : Hid (Below w.heap.size w (w.alloc (.cells #[.slice pq nQ cq] 26))) := (Below.refl _ _).alloc (Nat.le_refl _) _
  have hz0 : w.heap.size < (w.alloc (.cells #[.slice pq nQ cq] 26)).heap.size := by simp
  have HF0 : Hid (Fx (w.alloc (.cells #[.slice pq nQ cq] 26)) [] (w.alloc (.cells #[.slice pq nQ cq] 26))) := Fx.start _
  go_enter Try.func3, Try.ntmps3
  go_upto_region 1 with fail
  generalize w.alloc (.cells #[.slice pq nQ cq] 26) = W0 at *
  go_upto_region 4 with (first
    | (go_at_call 6; refine (shown_any _).mono ?_; rintro e w1 ⟨rfl, hb⟩; have HF1 := hid (HF0.out.on hb); clear hb; have M1 : Hid True := trivial)
    | (go_at_call 7; clear M1; refine (fx_new HF1.out).mono ?_; rintro e w2 ⟨x, rfl, hf, hb⟩; have HF2 := hid hf; clear hf hb)
    | (go_at_call 7; refine (fx_new HF2.out).mono ?_; rintro e w3 ⟨y, rfl, hf, hb⟩; have HF3 : Hid (Fx W0 [⟨0, x, Ix.none⟩, ⟨0, y, Ix.none⟩] w3) := hf; clear hf hb))
  clear HF0 HF1 HF2
  have HT0 := hid (tie_start HF3.out)
  go_upto_region 6 with fail
  rw [show (w3.alloc (.cells #[.slice none 0 0] 33)).heap.size = w3.heap.size + 1 by simp] at HT0
  generalize hb2 : w3.heap.size + 1 = b2 at *
  generalize hb1 : w3.heap.size = b1 at *
  generalize hw5 : (w3.alloc (.cells #[.slice none 0 0] 33)).alloc (.cells #[.slice none 0 0] 33) = w5 at *
  clear hb1 hb2 hw5 HF3
  go_upto_region 9 with fail
  go_loopw [8, 12] (fun xv i wr => ∃ (k bx M N : Nat) (l r : List En), (k ≤ no ∧ k ≤ 60 ∧ N ≤ 2097153 * k ∧ M ≤ 127926333 * k ∧ l.length ≤ 127926333 * k ∧ r.length ≤ 2097153 * k) ∧ xv = dp bx ∧ i = .int .i64 k ∧ Hid (Tie W0 M N bx y b1 b2 l r wr)) (fun _ i _ => 60 - (intOf i).toNat)
  case atStart => exact ⟨0, x, 0, 0, [], [], by simp, rfl, rfl, HT0⟩
  case round =>
    clear HT0
    obtain ⟨k, bx, M, N, l, r, hk, rfl, rfl, HT⟩ := hrel
    by_cases hlt : k < no ∧ k < 60
    · obtain ⟨h1, h2⟩ := hlt
      obtain ⟨o, hoo⟩ : ∃ o, os[k]? = some o := ⟨os[k]'(by rw [HNo.out]; omega), List.getElem?_eq_getElem _⟩
      have HBW : Hid (Below w.heap.size w wr) := HW.out.trans (HT.out.pl.bel.mono (Nat.le_of_lt hz0))
      obtain ⟨bs, oo, rfl, hbs, hS⟩ := so_of (SlAt.below HO.out HBW.out) hoo
      have HGo := hid (HG.out o (List.mem_of_getElem? hoo))
      have HZo := hid (HZ.out o (List.mem_of_getElem? hoo))
      have HAr := hid (HGo.out.ar.below HBW.out)
      have hc0 : wr.cell? ⟨bs, oo + k * 8, none⟩ = some (.int .i64 o.k) := hS.1.1
      have HBb : Hid (∀ w', Below W0.heap.size W0 w' → Below w.heap.size w w') := fun w' hb => HW.out.trans (hb.mono (Nat.le_of_lt hz0))
      have HSF : Hid (∀ w', Below W0.heap.size W0 w' → Sh bs (oo + k * 8) o w') := fun w' hb => by
        obtain ⟨b', o', e, -, hS'⟩ := so_of (SlAt.below HO.out (HBb.out w' hb)) hoo
        cases e
        exact sh_of hS'
      have HAF : Hid (∀ w', Below W0.heap.size W0 w' → Ar (fun k => k < w.heap.size) w' o.ks o.vs o.pk o.pv o.kc o.vc o.kv o.vv) := fun w' hb => HGo.out.ar.below (HBb.out w' hb)
      have hS0 : Sh bs (oo + k * 8) o wr := sh_of hS
      obtain ⟨j, hj, hj5⟩ : ∃ j : Nat, kindN o.k 5 = (j : Int) ∧ j < 5 := ⟨(kindN o.k 5).toNat, by have := kindN_lt (c := o.k) (n := 5) (by decide); omega, by have := kindN_lt (c := o.k) (n := 5) (by decide); omega⟩
      clear hoo hS
      have i1 : (0 : Int) ≤ (k : Int) := by omega
      have i2 : (k : Int) < (no : Int) := by omega
      go_upto_region 12 with (go_at_call 8; refine (kind_is HGo.out.k (by decide) hj _).mono ?_; rintro e w2 ⟨rfl, rfl⟩)
      rcases (show j = 0 ∨ j = 1 ∨ j = 2 ∨ j = 3 ∨ j = 4 by omega) with rfl | rfl | rfl | rfl | rfl
      · as_aux_lemma =>
        go_upto_region 14 with fail
        go_region_held3 (Sh bs (oo + k * 8) o) (((repeat (first | (with_reducible refine shD ?_))); (with_reducible assumption)))
          (first | (go_at_call 9; refine (pl_addX (HT.out.pl.on (Below.refl _ _).drew) (Q := fun k => k < w.heap.size) (fun k hk => by omega) (HAr.out.below (Below.refl _ _).drew) (by have := HGo.out.nm; unfold maxLen; omega) (by have := HZo.out; unfold maxLen; omega)).mono ?_; rintro e w4 ⟨rfl, hp⟩; have HP4 := hid hp; have hS4 := HSF.out _ hp.bel; clear hp))
        clear hS0
        go_upto_region 15 with fail
        go_region_held3 (Sh bs (oo + k * 8) o) (((repeat (first | (with_reducible refine shD ?_))); (with_reducible assumption)))
          (first | (go_at_call 10; refine (pl_addY (HP4.out.on (Below.refl _ _).drew) (Q := fun k => k < w.heap.size) (fun k hk => by omega) ((HAF.out _ HP4.out.bel).below (Below.refl _ _).drew) (by have := HZo.out; omega)).mono ?_; rintro e w5 ⟨rfl, hp⟩; have HP5 := hid hp; have hS5 := HSF.out _ hp.bel; clear hp))
        clear hS4 hS5
        go_wp2
        go_roundw
        case rel =>
          have hz5 := HZo.out
          have hl5 := addE_len o.nm o.kc o.kv o.vc o.vv l
          exact ⟨k + 1, bx, _, N, _, r, by omega, rfl, by go_num, HT.out.addX HP5.out⟩
        case measure => simp [intOf]; omega
      · as_aux_lemma =>
        go_upto_region 14 with fail
        go_region_held3 (Sh bs (oo + k * 8) o) (((repeat (first | (with_reducible refine shD ?_))); (with_reducible assumption)))
          (first | (go_at_call 9; refine (pl_addX (HT.out.pl.on (Below.refl _ _).drew) (Q := fun k => k < w.heap.size) (fun k hk => by omega) (HAr.out.below (Below.refl _ _).drew) (by have := HGo.out.nm; unfold maxLen; omega) (by have := HZo.out; unfold maxLen; omega)).mono ?_; rintro e w4 ⟨rfl, hp⟩; have HP4 := hid hp; have hS4 := HSF.out _ hp.bel; clear hp))
        clear hS0
        go_upto_region 15 with fail
        go_region_held3 (Sh bs (oo + k * 8) o) (((repeat (first | (with_reducible refine shD ?_))); (with_reducible assumption)))
          (first | (go_at_call 10; refine (pl_addY (HP4.out.on (Below.refl _ _).drew) (Q := fun k => k < w.heap.size) (fun k hk => by omega) ((HAF.out _ HP4.out.bel).below (Below.refl _ _).drew) (by have := HZo.out; omega)).mono ?_; rintro e w5 ⟨rfl, hp⟩; have HP5 := hid hp; have hS5 := HSF.out _ hp.bel; clear hp))
        clear hS4 hS5
        go_wp2
        go_roundw
        case rel =>
          have hz5 := HZo.out
          have hl5 := addE_len o.nm o.kc o.kv o.vc o.vv l
          exact ⟨k + 1, bx, _, N, _, r, by omega, rfl, by go_num, HT.out.addX HP5.out⟩
        case measure => simp [intOf]; omega
      · as_aux_lemma =>
        go_upto_region 17 with fail
        go_region_held3 (Sh bs (oo + k * 8) o) (((repeat (first | (with_reducible refine shD ?_))); (with_reducible assumption)))
          (first | (go_at_call 9; refine (pl_addO (HT.out.pl.on (Below.refl _ _).drew) (Q := fun k => k < w.heap.size) (fun k hk => by omega) (HAr.out.below (Below.refl _ _).drew) (by have := HGo.out.nm; unfold maxLen; omega) (by have := HZo.out; unfold maxLen; omega)).mono ?_; rintro e w4 ⟨rfl, hp⟩; have HP4 := hid hp; have hS4 := HSF.out _ hp.bel; clear hp))
        clear hS0
        go_upto_region 18 with fail
        go_region_held3 (Sh bs (oo + k * 8) o) (((repeat (first | (with_reducible refine shD ?_))); (with_reducible assumption)))
          (first | (go_at_call 10; refine (pl_addZ (HP4.out.on (Below.refl _ _).drew) (Q := fun k => k < w.heap.size) (fun k hk => by omega) ((HAF.out _ HP4.out.bel).below (Below.refl _ _).drew) (by have := HZo.out; omega)).mono ?_; rintro e w5 ⟨rfl, hp⟩; have HP5 := hid hp; have hS5 := HSF.out _ hp.bel; clear hp))
        clear hS4 hS5
        go_wp2
        go_roundw
        case rel =>
          have hz5 := HZo.out
          have hl5 := addE_len o.nm o.kc o.kv o.vc o.vv r
          exact ⟨k + 1, bx, M, _, l, _, by omega, rfl, by go_num, HT.out.addO HP5.out⟩
        case measure => simp [intOf]; omega
      · as_aux_lemma =>
        clear hS0
        go_upto_region 20 with fail
        have M1 : Hid True := trivial
        go_wp2_with (first
          | (go_at_call 11; have FIRST := M1; refine (pl_join HT.out.pl (by unfold maxLen; omega)).mono ?_; rintro e w4 ⟨rfl, hp⟩; have HP4 := hid hp; clear hp M1 FIRST)
          | (go_at_call 11; refine joinX_nil.mono ?_; rintro e w5 ⟨rfl, rfl⟩)
          | (go_at_call 12; refine (pl_rjoin HP4.out (by omega)).mono ?_; rintro e w6 ⟨rfl, hp⟩; have HP5 := hid hp; clear hp))
        go_roundw
        case rel =>
          have hl5 := joinE_len r l
          exact ⟨k + 1, bx, _, N, _, r, by omega, rfl, by go_num, HT.out.joined HP5.out⟩
        case measure => simp [intOf]; omega
      · as_aux_lemma =>
        clear hS0
        go_upto_region 28 with (go_at_call 13; refine (pl_clone HT.out.pl (by unfold maxLen; omega)).mono ?_; rintro e w4 ⟨bn, rfl, hp, hb⟩; have HP4 := hid hp; have hS4 := HSF.out _ hp.bel; clear hp hb)
        go_region_held3 (Sh bs (oo + k * 8) o) (((repeat (first | (with_reducible refine shD ?_))); (with_reducible assumption)))
          (first | (go_at_call 9; refine (pd_add (HP4.out.on (Below.refl _ _).drew) (Q := fun k => k < w.heap.size) (fun k hk => by omega) ((HAF.out _ HP4.out.bel).below (Below.refl _ _).drew) (by have := HGo.out.nm; unfold maxLen; omega) (by have := HZo.out; unfold maxLen; omega)).mono ?_; rintro e w5 ⟨rfl, hp⟩; have HP5 := hid hp; have hS5 := HSF.out _ hp.bel; clear hp))
        clear hS4 hS5
        go_wp2
        go_roundw
        case rel => exact ⟨k + 1, bn, M, N, l, r, by omega, rfl, by go_num, HT.out.again HP5.out⟩
        case measure => simp [intOf]; omega
    · as_aux_lemma =>
      have HL12 : Hid (l.length ≤ 1000000000000 ∧ r.length ≤ 1000000000000) := by show _ ∧ _; omega
      have dk : ¬ (k : Int) < no ∨ ((k : Int) < no ∧ ¬ (k : Int) < 60) := by omega
      have HBq : Hid (∀ w', Below W0.heap.size W0 w' → w'.cell? ⟨w.heap.size, 0, none⟩ = some (.slice pq nQ cq)) := fun w' hb => (hb.cell (p := ⟨w.heap.size, 0, none⟩) hz0).trans (block_cell HBx0.out 0)
      have HQw : Hid (∀ w', Below W0.heap.size W0 w' → Qn (fun k => k < w.heap.size) w' (.slice pq nQ cq) ns) := fun w' hb => HQ.out.bel (HW.out.trans (hb.mono (Nat.le_of_lt hz0)))
      clear hlt
      obtain ⟨n2, hn2, dn⟩ : ∃ n2 : Nat, (n2 ≤ na ∧ n2 ≤ 20) ∧ ((n2 = na) ∨ (n2 = 20 ∧ 20 < na)) := by
        by_cases h : na ≤ 20
        · exact ⟨na, by omega, .inl rfl⟩
        · exact ⟨20, by omega, .inr (by omega)⟩
      obtain ⟨n3, hn3, dq⟩ : ∃ n3 : Nat, (n3 ≤ nQ + 1 ∧ n3 ≤ 40) ∧ ((n3 = nQ + 1) ∨ (n3 = 40 ∧ 40 ≤ nQ)) := by
        by_cases h : nQ + 1 ≤ 40
        · exact ⟨nQ + 1, by omega, .inl rfl⟩
        · exact ⟨40, by omega, .inr (by omega)⟩
      rcases dk with dk | ⟨dk, dk2⟩
      all_goals
        as_aux_lemma =>
        (go_upto_region 30 with fail
         rcases dn with dn | dn
         all_goals
          as_aux_lemma =>
          (go_loopw [14] (fun u wr => ∃ i : Nat, u = .int .i64 i ∧ i ≤ n2 ∧ Hid (Tie W0 M N bx y b1 b2 l r wr)) (fun u _ => 20 - (intOf u).toNat)
           case atStart => exact ⟨0, rfl, by omega, HT⟩
           case round =>
             obtain ⟨i, rfl, hin, HT2⟩ := hrel
             clear HT
             by_cases hl2 : i < n2
             · as_aux_lemma =>
               obtain ⟨nm, hnm⟩ : ∃ nm, A[i]? = some nm := ⟨A[i]'(by rw [HNa.out]; omega), List.getElem?_eq_getElem _⟩
               obtain ⟨ba, oa, rfl, hba, hcl, hsz⟩ := names_at HA.out hnm
               have HCi : Hid (∀ w', Below W0.heap.size W0 w' → E1 ba (oa + i) (.string nm) w') := fun w' hb => hcl w' (HW.out.trans (hb.mono (Nat.le_of_lt hz0)))
               have HSz : Hid (nm.size ≤ 562949953421312) := hsz
               have i0 : (0 : Int) ≤ i := by omega
               have i1 : (i : Int) < na := by omega
               have i2 : (i : Int) < 20 := by omega
               have hS0 := HCi.out wr HT2.out.pl.bel
               have HX1 : Hid (∀ n, Calls Try.prog 14 #[dp bx, .string nm] (wr.drewN n) fun e w'' => e = .returned (.bool (seenE l nm)) ∧ ∃ m, w'' = wr.drewN m) := fun n => Calls.quiet_of_same (tie_seenX (w := wr.drewN n) (HT2.out.on (below_drewN (Below.refl _ _) n)) (by have := HSz.out; unfold maxLen; omega))
               have HX2 : Hid (∀ n, Calls Try.prog 15 #[dp b1, .string nm] (wr.drewN n) fun e w'' => e = .returned (.bool (seenE l nm)) ∧ ∃ m, w'' = wr.drewN m) := fun n => Calls.quiet_of_same (tie_seenY (w := wr.drewN n) (HT2.out.on (below_drewN (Below.refl _ _) n)) HL12.out.1)
               have HX3 : Hid (∀ n, Calls Try.prog 14 #[dp y, .string nm] (wr.drewN n) fun e w'' => e = .returned (.bool (seenE r nm)) ∧ ∃ m, w'' = wr.drewN m) := fun n => Calls.quiet_of_same (tie_seenO (w := wr.drewN n) (HT2.out.on (below_drewN (Below.refl _ _) n)) (by have := HSz.out; unfold maxLen; omega))
               have HX4 : Hid (∀ n, Calls Try.prog 15 #[dp b2, .string nm] (wr.drewN n) fun e w'' => e = .returned (.bool (seenE r nm)) ∧ ∃ m, w'' = wr.drewN m) := fun n => Calls.quiet_of_same (tie_seenZ (w := wr.drewN n) (HT2.out.on (below_drewN (Below.refl _ _) n)) HL12.out.2)
               generalize seenE l nm = s1 at *
               generalize seenE r nm = s2 at *
               have bl : (s1 != s1) = false := by simp
               have br : (s2 != s2) = false := by simp
               clear hcl hsz hnm
               go_upto_region 32 with fail
               go_quiet (first
                 | (go_at_call_of 14 (dp bx); exact HX1.out _)
                 | (go_at_call_of 14 (dp y); exact HX3.out _)
                 | (go_at_call_of 15 (Value.pointer (some ⟨b1, 0, none⟩)); exact HX2.out _)
                 | (go_at_call_of 15 (Value.pointer (some ⟨b2, 0, none⟩)); exact HX4.out _))
               have HTd := hid (HT2.out.on (below_drewN (Below.refl _ _) nq))
               clear bl br hS0 HX1 HX2 HX3 HX4
               generalize wr.drewN nq = Wd at *
               go_upto_region 35 with fail
               go_loopw [15] (fun u wr2 => ∃ k2 : Nat, u = .int .i64 k2 ∧ k2 ≤ n2 ∧ Hid (Tie W0 M N bx y b1 b2 l r wr2)) (fun u _ => 20 - (intOf u).toNat)
               case atStart => exact ⟨0, rfl, by omega, HTd⟩
               case round =>
                 obtain ⟨k2, rfl, hkn, HT3⟩ := hrel
                 clear HTd
                 by_cases hl3 : k2 < n2
                 · as_aux_lemma =>
                   obtain ⟨fd, hfd⟩ : ∃ nm, A[k2]? = some nm := ⟨A[k2]'(by rw [HNa.out]; omega), List.getElem?_eq_getElem _⟩
                   obtain ⟨ba', oa', hpe, hba', hcl, hsz⟩ := names_at HA.out hfd
                   cases hpe
                   have HCk : Hid (∀ w', Below W0.heap.size W0 w' → EE ba (oa + i) (oa + k2) (.string nm) (.string fd) w') := fun w' hb => ⟨HCi.out w' hb, hcl w' (HW.out.trans (hb.mono (Nat.le_of_lt hz0)))⟩
                   have HSk : Hid (fd.size ≤ 562949953421312) := hsz
                   have j0 : (0 : Int) ≤ k2 := by omega
                   have j1 : (k2 : Int) < na := by omega
                   have j2 : (k2 : Int) < 20 := by omega
                   have hS0 := HCk.out _ HT3.out.pl.bel
                   have HTe := hid (HT3.out.on (Below.refl _ _).drew)
                   obtain ⟨F, hF⟩ : ∃ F, getE l nm (kf fd) = F := ⟨_, rfl⟩
                   have HFF := hid hF
                   have eqq := eql_same F
                   clear hcl hsz hfd hF
                   go_upto_region 37 with fail
                   go_region_held3 (EE ba (oa + i) (oa + k2) (.string nm) (.string fd)) (((repeat (first | (with_reducible refine eeD ?_))); (with_reducible assumption)))
                     (first
                     | (go_at_call 16; refine (tie_bits HTe.out (by have := HSz.out; unfold maxLen; omega) (by have := HSk.out; unfold maxLen; omega)).mono ?_; rintro e w4 ⟨he, hb⟩; rw [HFF.out] at he; subst he; replace HTe := hid (HTe.out.on hb); have hS4 := HCk.out _ HTe.out.pl.bel; clear hb)
                     | (go_at_call 17; refine (tie_rbits HTe.out HSk.out HL12.out.1).mono ?_; rintro e w4 ⟨he, hb⟩; rw [HFF.out] at he; subst he; replace HTe := hid (HTe.out.on hb); have hS4 := HCk.out _ HTe.out.pl.bel; clear hb))
                   all_goals
                     (clear eqq
                      go_wp2
                      go_roundw
                      case rel => exact ⟨k2 + 1, by simp, by omega, HTe⟩
                      case measure => simp [intOf]; omega)
                 · have j1 : k2 = n2 := by omega
                   have jx : ¬ (k2 : Int) < na ∨ ((k2 : Int) < na ∧ ¬ (k2 : Int) < 20) := by omega
                   clear hl3
                   rcases jx with jx | ⟨jx, jy⟩
                   all_goals first | (exfalso; omega) | skip
                   all_goals
                    as_aux_lemma =>
                    (go_upto_region 40 with fail
                     go_loopw [16] (fun u wr => ∃ z : Int, u = .int .i64 z ∧ -1 ≤ z ∧ z ≤ n3 ∧ Hid (Tie W0 M N bx y b1 b2 l r wr)) (fun u _ => (40 - intOf u).toNat)
                     case atStart => exact ⟨-1, rfl, by omega, by omega, HT3⟩
                     case round =>
                       obtain ⟨z, rfl, hz1, hz2, HT4⟩ := hrel
                       clear HT3
                       have kq := HBq.out _ HT4.out.pl.bel
                       by_cases hz : z < n3
                       · as_aux_lemma =>
                         have z1 : z ≤ nQ := by omega
                         have z2 : z < 40 := by omega
                         have z64 : -9223372036854775808 ≤ z ∧ z ≤ 9223372036854775807 := by omega
                         have hS0 : EQ ba (oa + i) w.heap.size (.string nm) (.slice pq nQ cq) _ := ⟨HCi.out _ HT4.out.pl.bel, HBq.out _ HT4.out.pl.bel⟩
                         have HTe := hid (HT4.out.on (Below.refl _ _).drew)
                         obtain ⟨mb, hmb⟩ : ∃ b, might KK (absE l) nm (qs ns) z = b := ⟨_, rfl⟩
                         have HMb := hid hmb
                         have HZ6 := hid z64
                         have bm : (mb != mb) = false := by simp
                         clear hmb z64
                         go_upto_region 42 with fail
                         clear kq
                         go_region_held3 (EQ ba (oa + i) w.heap.size (.string nm) (.slice pq nQ cq)) (((repeat (first | (with_reducible refine eqD ?_))); (with_reducible assumption)))
                           (first
                           | (go_at_call 18; refine (tie_might HTe.out (HQw.out _ HTe.out.pl.bel) (by have := HSz.out; unfold maxLen; omega) HZ6.out).mono ?_; rintro e w4 ⟨he, hb⟩; rw [HMb.out] at he; subst he; replace HTe := hid (HTe.out.on hb); have hS4 : EQ ba (oa + i) w.heap.size (.string nm) (.slice pq nQ cq) w4 := ⟨HCi.out _ HTe.out.pl.bel, HBq.out _ HTe.out.pl.bel⟩; clear hb)
                           | (go_at_call 19; refine (tie_rmight HTe.out HL12.out.1 (HQw.out _ HTe.out.pl.bel) HS.out HZ6.out).mono ?_; rintro e w4 ⟨he, hb⟩; rw [HMb.out] at he; subst he; replace HTe := hid (HTe.out.on hb); have hS4 : EQ ba (oa + i) w.heap.size (.string nm) (.slice pq nQ cq) w4 := ⟨HCi.out _ HTe.out.pl.bel, HBq.out _ HTe.out.pl.bel⟩; clear hb))
                         all_goals
                           (go_wp2
                            go_roundw
                            case rel => exact ⟨z + 1, by simp, by omega, by omega, HTe⟩
                            case measure => simp [intOf]; omega)
                       · have zx : ¬ z ≤ nQ ∨ (z ≤ nQ ∧ ¬ z < 40) := by omega
                         clear hz
                         rcases zx with zx | ⟨zx, zy⟩
                         all_goals first | (exfalso; omega) | skip
                         all_goals
                          (go_wp2_with fail
                           go_roundw
                           case rel => exact ⟨i + 1, by simp, by omega, HT4⟩
                           case measure => simp [intOf]; omega))
             · have ix : ¬ (i : Int) < na ∨ ((i : Int) < na ∧ ¬ (i : Int) < 20) := by omega
               clear hl2
               rcases ix with ix | ⟨ix, iy⟩
               all_goals first | (exfalso; omega) | skip
               all_goals
                (go_wp2_with fail
                 go_ret
                 exact ⟨rfl, HW.out.trans (HT2.out.pl.bel.mono (Nat.le_of_lt hz0))⟩)))
end Go.Proofs.Ytmkilckoeaekkaa
