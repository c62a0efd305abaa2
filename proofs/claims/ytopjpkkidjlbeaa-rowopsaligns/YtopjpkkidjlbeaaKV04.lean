/-
  RowopsAligns, walked.
  A table opened, its numbers within their bounds.
  Any table's times are laid as the document says, once as often as twice, and it stays: the Go function catchmentlaw16.RowopsAligns returns true for every input, and changes none. No condition.
-/
import Derived.Test.YtopjpkkidjlbeaaRows
import Derived.Test.YtopjpkkidjlbeaaKW28
import Derived.Test.YtopjpkkidjlbeaaKW29
import Derived.Test.YtopjpkkidjlbeaaKV03
namespace Go.Proofs.Ytopjpkkidjlbeaa.RO
open Go.RowKit Go.Joins Go.Sort

theorem tabA_form {w' : World} {v : Value} {cs : List TN.Cl} {rs : List TN.Rw} (h : TN.TabAt w' v cs rs) : ∃ pc nc cc pr nr cr, v = .agg #[.slice pc nc cc, .slice pr nr cr] := by
  obtain ⟨c, r, rfl, ⟨p, cap, rfl, -⟩, hs, ⟨q, cq, rfl, -⟩, -⟩ := h
  exact ⟨_, _, _, _, _, _, rfl⟩
set_option maxRecDepth 100000 in
set_option maxHeartbeats 16000000 in
theorem aligns_any {tv : Value} {cs : List TN.Cl} {rs : List TN.Rw} {wd : Int} {w : World} (ht : TN.TabAt w tv cs rs) (hwd : InI wd) (hni : NumsIn rs) : Calls Try.prog 9 #[tv, .int .i64 wd] w fun e w' => e = .returned (.bool true) ∧ Below w.heap.size w w' := by
  obtain ⟨cv, rv, rfl, hcs, hs, hrs, hhs⟩ := ht
  have hb0 : Below w.heap.size w (w.alloc (.cells #[cv, rv] 28)) := (Below.refl _ _).alloc (Nat.le_refl _) _
  have hK0 := alloc_block w (.cells #[cv, rv] 28)
  have HB0 := hid hb0
  have HK0 := hid hK0
  have HC0 := hid ((TN.SlAt.low hcs (by decide) TN.cl_len).imp (fun b hb => hb.2) |>.on hb0)
  have HR0 := hid ((TN.SlAt.low hrs (by decide) TN.one_len).imp (fun b hb => hb.2) |>.on hb0)
  have HH0 := hid (TN.HeadsIn.on (TN.heads_low hhs) hb0)
  have HNI := hid hni
  have HWD := hid hwd
  have HSh := hid shown6_any
  obtain ⟨pc, cc, rfl, -⟩ := hcs
  obtain ⟨pr0, cr0, rfl, -⟩ := hrs
  clear hb0 hK0 hhs hni hwd
  go_enter Try.func9, Try.ntmps9
  go_upto_region 1 with fail
  generalize w.alloc (.cells #[.slice pc cs.length cc, .slice pr0 hs.length cr0] 28) = w0 at *
  have y0 : w0.cell? ⟨w.heap.size, 0, none⟩ = some (.slice pc cs.length cc) := block_cell HK0.out 0
  have y1 : w0.cell? ⟨w.heap.size, 1, none⟩ = some (.slice pr0 hs.length cr0) := block_cell HK0.out 1
  go_upto_region 2 with (first
    | (go_at_call 27; refine (HSh.out _).mono ?_; rintro e w1 ⟨rfl, hb⟩; have HB1 := hid (HB0.out.trans (hb.mono HB0.out.size)); have hk1 := block_on HK0.out hb; have HK1 := hid hk1; have y2 := block_cell hk1 0; have y3 := block_cell hk1 1; have HC1 := hid (HC0.out.on hb); have HR1 := hid (HR0.out.on hb); have HH1 := hid (HH0.out.on hb); clear hb hk1 y0 y1))
  go_upto_region 3 with (first
    | (go_at_call 28; refine (TN.cut6_q HC1.out HR1.out HH1.out).mono ?_; rintro e w2 ⟨r2, rfl, hr2, hh2, hb⟩; have hr1 : (rs.take 100).length ≤ 100 := (by rw [List.length_take]; omega); have hn3 : NumsIn (rs.take 100) := (fun r hr => HNI.out r (List.mem_of_mem_take hr)); generalize hs.take 100 = hs3 at *; generalize rs.take 100 = rs3 at *; have HLR := hid hr1; have HN3 := hid hn3; obtain ⟨n, hn⟩ : ∃ n, hs3.length = n := ⟨_, rfl⟩; have HN := hid hn; have HB2 := hid (HB1.out.trans (hb.mono HB1.out.size)); have hk2 := block_on HK1.out hb; have HK2 := hid hk2; have y4 := block_cell hk2 0; have y5 := block_cell hk2 1; have y6 := block_frozen hk2 0; have y7 := block_frozen (block_set hk2 0 (.slice pc cs.length cc)) 1; have y8 := block_cell (block_set hk2 0 (.slice pc cs.length cc)) 1; have HC2 := hid (HC1.out.on hb); have HR2 := hid hr2; have HH2 := hid hh2; obtain ⟨pr, cr, rfl, -⟩ := hr2; rw [hn] at HR2 ⊢; clear hb hk2 y2 y3 hh2 hr1 hn hn3))
  have hkf : Kp (fun b => b = w.heap.size) w2 ((w2.setCell ⟨w.heap.size, 0, none⟩ (.slice pc cs.length cc)).setCell ⟨w.heap.size, 1, none⟩ (.slice pr n cr)) := (Kp.set (T := fun b => b = w.heap.size) rfl _).trans (Kp.set (T := fun b => b = w.heap.size) rfl _)
  have KF := block_set (block_set HK2.out 0 (.slice pc cs.length cc)) 1 (.slice pr n cr)
  have hwz : w.heap.size ≤ w2.heap.size := HB2.out.size
  have HT3 : Hid (TN.TabAt ((w2.setCell ⟨w.heap.size, 0, none⟩ (.slice pc cs.length cc)).setCell ⟨w.heap.size, 1, none⟩ (.slice pr n cr)) (.agg #[.slice pc cs.length cc, .slice pr n cr]) cs rs3) := hid ((TN.TabIn.set (Q := fun b => b < w.heap.size) (fun b hb => by omega) (TN.TabIn.set (fun b hb => by omega) ⟨_, _, rfl, HC2.out, hs3, HR2.out, HH2.out⟩)).imp (fun _ _ => trivial))
  have HB3 := hid (HB2.out.trans (hkf.below HB2.out.size (fun b e => by omega)))
  clear y4 y5 y6 y7 y8 hkf HC2 HR2 HH2 HK2 hwz
  have HW3 := hid KF
  clear KF
  generalize (w2.setCell ⟨w.heap.size, 0, none⟩ (.slice pc cs.length cc)).setCell ⟨w.heap.size, 1, none⟩ (.slice pr n cr) = w3 at *
  have hrl : rs3.length ≤ 1000000 := by have := HLR.out; omega
  have HCn := hid (fun W (hb : Below w3.heap.size w3 W) => TN.rcanon_any (HT3.out.on hb))
  have HAl := hid (fun W (hb : Below w3.heap.size w3 W) => align_any (HT3.out.on hb) HWD.out HN3.out hrl)
  have HRa := hid (fun W (hb : Below w3.heap.size w3 W) => ralign_any (HT3.out.on hb) HWD.out HN3.out hrl)
  have y4 : w3.cell? ⟨w.heap.size, 0, none⟩ = some (.slice pc cs.length cc) := block_cell HW3.out 0
  have y5 : w3.cell? ⟨w.heap.size, 1, none⟩ = some (.slice pr n cr) := block_cell HW3.out 1
  clear hrl
  go_upto_region 4 with (first
    | (go_at_call 24; refine (HCn.out _ (Below.refl _ _)).mono ?_; rintro e w4 ⟨v4, rfl, ht4, hb⟩; have HT4 := hid ht4; obtain ⟨pc4, nc4, cc4, pr4, nr4, cr4, rfl⟩ := tabA_form ht4; have HB4 := hid hb; clear hb ht4 y4 y5))
  have k4 := alloc_block w4 (.cells #[.slice pc4 nc4 cc4, .slice pr4 nr4 cr4] 28)
  have ha4 : Below w4.heap.size w4 (w4.alloc (.cells #[.slice pc4 nc4 cc4, .slice pr4 nr4 cr4] 28)) := (Below.refl _ _).alloc (Nat.le_refl _) _
  have HB5 := hid (TN.below_on HB4.out ha4)
  have HT5 := hid (HT4.out.on ha4)
  have K5 := hid k4
  have HW5 := hid (block_on HW3.out HB5.out)
  clear HT4 k4 ha4
  generalize w4.alloc (.cells #[.slice pc4 nc4 cc4, .slice pr4 nr4 cr4] 28) = w5 at *
  have z0 : w5.cell? ⟨w.heap.size, 0, none⟩ = some (.slice pc cs.length cc) := block_cell HW5.out 0
  have z1 : w5.cell? ⟨w.heap.size, 1, none⟩ = some (.slice pr n cr) := block_cell HW5.out 1
  have HAg := hid (fun (h1 : TN.checkV cs rs3 = 0) (h2 : alB cs wd = true) => al_again (rs := rs3) h1 h2)
  have HNU := hid (fun (h1 : TN.checkV cs rs3 = 0) (h2 : alB cs wd = true) => al_nums (rs := rs3) (p := (TN.findC cs tmB).toNat) (w := wd) HN3.out (of_decide_eq_true h2).1 (fun r hr => by have h3 := TN.findC_lt cs tmB; have := (rows_len h1).2 r hr; have := (of_decide_eq_true h2).2.1; omega))
  have HOk : Hid (runE cs rs3 (alB cs wd) = 0 → TN.checkV cs rs3 = 0 ∧ alB cs wd = true ∧ okE cs rs3 (alB cs wd) = true) := hid (by
    intro h
    unfold runE at h
    by_cases h1 : TN.checkV cs rs3 = 0
    · rw [if_pos h1] at h
      cases h2 : alB cs wd with
      | true => exact ⟨h1, rfl, by unfold okE; rw [h1]; rfl⟩
      | false => rw [h2] at h; simp at h
    · rw [if_neg h1] at h; exact absurd h h1)
  have HLR2 : Hid ((TN.sortR (rs3.map (alR (TN.findC cs tmB).toNat wd))).length ≤ 1000000) := hid (by rw [TN.sortR_length, List.length_map]; have := HLR.out; omega)
  generalize hR : TN.sortR (rs3.map (alR (TN.findC cs tmB).toNat wd)) = R at *
  generalize hok : okE cs rs3 (alB cs wd) = ok at *
  generalize her : runE cs rs3 (alB cs wd) = er at *
  clear hR hok her
  go_upto_region 5 with (first
    | (go_at_call 29; go_loud (refine (HAl.out _ HB5.out).mono ?_; rintro e w6 ⟨v6, rfl, ht6, hb⟩; have HT6 : Hid (TN.TabAt w6 v6 (if ok then cs else []) (if ok then R else [])) := hid (TN.TabIn.imp (show TN.TabIn (fun k => w5.heap.size ≤ k) w6 v6 _ _ from ht6) (fun _ _ => trivial)); obtain ⟨pc6, nc6, cc6, pr6, nr6, cr6, rfl⟩ := tabE_form ht6; have HB6 := hid (TN.below_on HB5.out hb); have K56 := hid (block_on K5.out hb); have HT56 := hid (HT5.out.on hb); clear hb ht6 z0 z1)))
  have k6 := alloc_block w6 (.cells #[.slice pc6 nc6 cc6, .slice pr6 nr6 cr6] 28)
  have ha6 : Below w6.heap.size w6 (w6.alloc (.cells #[.slice pc6 nc6 cc6, .slice pr6 nr6 cr6] 28)) := (Below.refl _ _).alloc (Nat.le_refl _) _
  have HB7 := hid (TN.below_on HB6.out ha6)
  have HT7 := hid (HT6.out.on ha6)
  have HT57 := hid (HT56.out.on ha6)
  have K57 := hid (block_on K56.out ha6)
  have K7 := hid k6
  have HW7 := hid (block_on HW3.out HB7.out)
  clear HT6 HT56 k6 ha6
  generalize w6.alloc (.cells #[.slice pc6 nc6 cc6, .slice pr6 nr6 cr6] 28) = w7 at *
  have z0 : w7.cell? ⟨w.heap.size, 0, none⟩ = some (.slice pc cs.length cc) := block_cell HW7.out 0
  have z1 : w7.cell? ⟨w.heap.size, 1, none⟩ = some (.slice pr n cr) := block_cell HW7.out 1
  go_upto_region 6 with (first
    | (go_at_call 30; refine (HRa.out _ HB7.out).mono ?_; rintro e w8 ⟨v8, rfl, hf8, ht8, hb⟩; have HT8 : Hid (TN.TabAt w8 v8 (if ok then cs else []) (if ok then R else [])) := hid ht8; obtain ⟨pc8, nc8, cc8, pr8, nr8, cr8, rfl⟩ := hf8; have HB8 := hid (TN.below_on HB7.out hb); have K58 := hid (block_on K57.out hb); have K78 := hid (block_on K7.out hb); have HT58 := hid (HT57.out.on hb); have HT78 := hid (HT7.out.on hb); clear hb ht8 z0 z1))
  have k8 := alloc_block w8 (.cells #[.slice pc8 nc8 cc8, .slice pr8 nr8 cr8] 28)
  have ha8 : Below w8.heap.size w8 (w8.alloc (.cells #[.slice pc8 nc8 cc8, .slice pr8 nr8 cr8] 28)) := (Below.refl _ _).alloc (Nat.le_refl _) _
  have HB9 := hid (TN.below_on HB8.out ha8)
  have HT9 := hid (HT8.out.on ha8)
  have HT59 := hid (HT58.out.on ha8)
  have HT79 := hid (HT78.out.on ha8)
  have K59 := hid (block_on K58.out ha8)
  have K79 := hid (block_on K78.out ha8)
  have K9 := hid k8
  have HW9 := hid (block_on HW3.out HB9.out)
  clear HT8 HT58 HT78 k8 ha8 K57 K58 K7 K78 K56 K5 HT57 HT7 HT5 HW5 HW7
  generalize w8.alloc (.cells #[.slice pc8 nc8 cc8, .slice pr8 nr8 cr8] 28) = w9 at *
  have z2 := block_cell K79.out
  have z3 := block_cell K9.out
  go_upto_region 7 with (first
    | (go_at_call 21; refine (TN.rsame_any HT79.out HT9.out).mono ?_; rintro e w10 ⟨rfl, hb⟩; rw [decide_eq_true ⟨rfl, rfl⟩]; have HB10 := hid (TN.below_on HB9.out hb); have K5a := hid (block_on K59.out hb); have K7a := hid (block_on K79.out hb); have HT5a := hid (HT59.out.on hb); have HT7a := hid (HT79.out.on hb); have HWa := hid (block_on HW9.out hb); clear hb z2 z3))
  clear HT9 HT59 HT79 K59 K79 K9 HW9
  have HSm := hid (fun W (hb : Below w10.heap.size w10 W) v7 (h7 : TN.TabAt W v7 cs (TN.sortR rs3)) => ((TN.rsame_any h7 (HT5a.out.on hb)).mono (fun e w' h => ⟨by rw [h.1, decide_eq_true ⟨rfl, rfl⟩], h.2⟩) : Calls Try.prog 21 #[v7, _] W fun e w' => e = .returned (.bool true) ∧ Below W.heap.size W w'))
  go_cut [12] from 36 to 40 (fun x wx => x = .bool true ∧ Hid (Below w10.heap.size w10 wx))
  case first =>
    have hd : Below w10.heap.size w10 w10.drew := (Below.refl _ _).drew
    have HBd := hid (TN.below_on HB10.out hd)
    have HD := hid hd
    have z0 : w10.drew.cell? ⟨w.heap.size, 0, none⟩ = some (.slice pc cs.length cc) := block_cell (block_on HWa.out hd) 0
    have z1 : w10.drew.cell? ⟨w.heap.size, 1, none⟩ = some (.slice pr n cr) := block_cell (block_on HWa.out hd) 1
    have z2 := block_cell (block_on K5a.out hd)
    clear hd
    go_region_with (first
      | (go_at_call 24; refine (HCn.out _ HBd.out).mono ?_; rintro e wA ⟨vA, rfl, htA, hb⟩; obtain ⟨pcA, ncA, ccA, prA, nrA, crA, rfl⟩ := tabA_form htA; have HTA := hid htA; have HBA := hid (TN.below_on HD.out hb); have z3 := block_cell (block_on K5a.out HBA.out); clear hb htA z0 z1 z2)
      | (go_at_call 21; refine (HSm.out _ HBA.out _ HTA.out).mono ?_; rintro e wB ⟨rfl, hb⟩; have HBB := hid (TN.below_on HBA.out hb); clear hb z3))
    all_goals
      go_wp2_with fail
      go_meet
      case rel => exact ⟨rfl, HBB.out⟩
  case rest =>
    obtain ⟨rfl, HBc⟩ := hcut
    have HBz := hid (TN.below_on HB10.out HBc.out)
    have HTx := hid (HT7a.out.on HBc.out)
    have K7c := hid (block_on K7a.out HBc.out)
    have z2 := block_cell K7c.out
    by_cases her : er = 0
    case neg =>
      have d1 : (er == 0) = false := by simp [her]
      go_wp2_with fail
      go_ret
      exact ⟨rfl, HB3.out.trans (HBz.out.mono HB3.out.size)⟩
    case pos =>
      obtain ⟨e1, e2, e3⟩ := HOk.out her
      obtain ⟨a1, a2, a3⟩ := HAg.out e1 e2
      have a4 := HNU.out e1 e2
      subst e3
      subst her
      have HTx2 : Hid (TN.TabAt wc (.agg #[.slice pc6 nc6 cc6, .slice pr6 nr6 cr6]) cs R) := hid HTx.out
      have HAl2 : Hid (∀ W, Below wc.heap.size wc W → Calls Try.prog 29 #[.agg #[.slice pc6 nc6 cc6, .slice pr6 nr6 cr6], .int .i64 wd] W fun e w' => ∃ v', e = .returned (.tuple #[v', .int .i64 0]) ∧ TN.TabAt w' v' cs R ∧ Below W.heap.size W w') := hid (fun W hb => by
        have h := align_any (HTx2.out.on hb) HWD.out a4 HLR2.out
        rw [a1, a2, a3] at h
        refine h.mono ?_
        rintro e w' ⟨v', rfl, h1, h2⟩
        exact ⟨v', rfl, TN.TabIn.imp (show TN.TabIn (fun k => W.heap.size ≤ k) w' v' cs R from h1) (fun _ _ => trivial), h2⟩)
      have d1 : ((0 : Int) == 0) = true := rfl
      clear a1 a2 a3 a4 e1 e2
      go_upto_region 10 with (first
        | (go_at_call 29; refine (HAl2.out _ (Below.refl _ _)).mono ?_; rintro e wd1 ⟨vd, rfl, htd, hb⟩; obtain ⟨pcd, ncd, ccd, prd, nrd, crd, rfl⟩ := tabA_form htd; have HTd := hid htd; have HBd := hid hb; clear hb htd z2))
      have kd := alloc_block wd1 (.cells #[.slice pcd ncd ccd, .slice prd nrd crd] 28)
      have had : Below wd1.heap.size wd1 (wd1.alloc (.cells #[.slice pcd ncd ccd, .slice prd nrd crd] 28)) := (Below.refl _ _).alloc (Nat.le_refl _) _
      have HBe := hid (TN.below_on HBd.out had)
      have HTe := hid (HTd.out.on had)
      have HTxe := hid (HTx2.out.on HBe.out)
      have Kxe := hid (block_on K7c.out HBe.out)
      have y0 := block_cell kd
      have y1 := block_cell Kxe.out
      clear kd had
      generalize wd1.alloc (.cells #[.slice pcd ncd ccd, .slice prd nrd crd] 28) = we at *
      have HSe : Hid (Calls Try.prog 21 #[.agg #[.slice pc6 nc6 cc6, .slice pr6 nr6 cr6], .agg #[.slice pcd ncd ccd, .slice prd nrd crd]] we fun e w' => e = .returned (.bool true) ∧ Below we.heap.size we w') := hid ((TN.rsame_any HTxe.out HTe.out).mono (fun e w' h => ⟨by rw [h.1, decide_eq_true ⟨rfl, rfl⟩], h.2⟩))
      go_wp2_with (first
        | (go_at_call 21; refine HSe.out.mono ?_; rintro e wf ⟨rfl, hb⟩; have HBf := hid (TN.below_on HBe.out hb); clear hb y0 y1))
      go_ret
      exact ⟨rfl, HB3.out.trans ((TN.below_on HBz.out HBf.out).mono HB3.out.size)⟩
end Go.Proofs.Ytopjpkkidjlbeaa.RO
namespace Go.Proofs.Ytopjpkkidjlbeaa.TN
open Go.ChangeShapes Go.WideShapes Go.ChangeAt Go.WideMaps Go.WideElems Go.RowKit Go.Joins

section
variable {H : Type} {enc : TypeId × Value → H} {W : World} {base : Nat} {spare : Nat → Bool} {held : Bool}
set_option maxRecDepth 100000 in
theorem open_valN {m : Nat} {cs : List Value} {y : DataW H × List MemPlace} (h : DataW.trod enc Try.prog W base spare held m 39 cs = some y) : ∃ x : Vl, cs = x.cells ∧ RO.InI x.n := by
  obtain ⟨y0, y1, y2, y3, n, hx, hl, h0, h1, h2, h3⟩ := trod_struct4 Try.underlying39 h
  rw [cells48] at hl
  replace h0 : DataW.trod enc Try.prog W base spare held n 3 ((cs.drop 0).take (Try.prog.cellsOf 3)) = some y0 := h0
  replace h1 : DataW.trod enc Try.prog W base spare held n 3 ((cs.drop 1).take (Try.prog.cellsOf 3)) = some y1 := h1
  replace h2 : DataW.trod enc Try.prog W base spare held n 9 ((cs.drop 2).take (Try.prog.cellsOf 9)) = some y2 := h2
  replace h3 : DataW.trod enc Try.prog W base spare held n 37 ((cs.drop 3).take (Try.prog.cellsOf 37)) = some y3 := h3
  rw [cells3] at h0 h1
  rw [cells9] at h2
  rw [cells46] at h3
  match cs, hl with
  | [c0, c1, c2, c3, c4, c5, c6, c7, c8, c9, c10], _ =>
    obtain ⟨k, e0, _⟩ := DataW.trod_int Try.underlying3 h0
    obtain ⟨n, e1, w1⟩ := DataW.trod_int Try.underlying3 h1
    obtain ⟨s, e2, _, w2⟩ := DataW.trod_string Try.underlying9 h2
    obtain ⟨a0, a1, a2, a3, a4, a5, a6, a7, e3⟩ := open_cells8 h3
    simp at e0 e1 e2 e3
    obtain ⟨e3, e4, e5, e6, e7, e8, e9, e10⟩ := e3
    subst e0 e1 e2 e3 e4 e5 e6 e7 e8 e9 e10
    exact ⟨⟨k, n, s, a0, a1, a2, a3, a4, a5, a6, a7, w2⟩, rfl, ok64_of w1.2⟩
theorem open_rowN {fuel : Nat} {v : Value} {y : DataW H × List MemPlace} (h : DataW.trod enc Try.prog W base spare held fuel 33 [v] = some y) (hf : Fit 33 y.1) : ∃ r : Rw, RowAt W v r ∧ ∀ x ∈ r, RO.InI x.n := by
  obtain ⟨r, hr, hg⟩ := open_sl (α := Vl) (en := Vl.cells) (k := 11) (Good := fun x => RO.InI x.n) Try.underlying33 cells48 (by decide) vl_len (by rw [bytes48]; exact Nat.le_refl _) (fun n cs y h _ => open_valN h) h hf
  exact ⟨r, hr, hg⟩
theorem open_rowsN {fuel : Nat} {v : Value} {y : DataW H × List MemPlace} (h : DataW.trod enc Try.prog W base spare held fuel 26 [v] = some y) (hf : Fit 26 y.1) : ∃ rs : List Rw, RowsAt W v rs ∧ RO.NumsIn rs := by
  obtain ⟨xs, ⟨p, cap, hv, hc, hm, hx⟩, hg⟩ := open_sl (α := Value × Rw) (en := enP) (k := 1) (Good := fun x => RowAt W x.1 x.2 ∧ ∀ y ∈ x.2, RO.InI y.n) Try.underlying26 cells35 (by decide) (fun _ => rfl) (by rw [bytes35]; exact Nat.le_refl _) (fun n cs y h hf => by
    have hl : cs.length = 1 := by rcases DataW.trod_slice Try.underlying33 h with ⟨e, _⟩ | ⟨_, _, _, _, _, _, _, e, _⟩ <;> (subst e; rfl)
    match cs, hl with
    | [u], _ =>
      obtain ⟨r, hr⟩ := open_rowN h hf
      exact ⟨(u, r), rfl, hr⟩) h hf
  refine ⟨xs.map (·.2), ⟨xs.map (·.1), ⟨p, cap, by rw [List.length_map]; exact hv, by rw [List.length_map]; exact hc, by rw [List.length_map]; exact hm, fun hne => ?_⟩, by simp, fun j u r h1 h2 => ?_⟩, fun r hr => by obtain ⟨x, hx, rfl⟩ := List.mem_map.1 hr; exact (hg x hx).2⟩
  · obtain ⟨b, o, hp, hQ, hj⟩ := hx (by intro e; subst e; simp at hne)
    refine ⟨b, o, hp, by rw [List.length_map]; exact hQ, fun j u hju => ?_⟩
    rw [List.getElem?_map] at hju
    cases hxj : xs[j]? with
    | none => rw [hxj] at hju; cases hju
    | some x => rw [hxj] at hju; cases hju; exact hj j x hxj
  · rw [List.getElem?_map] at h1 h2
    cases hxj : xs[j]? with
    | none => rw [hxj] at h1; cases h1
    | some x =>
      rw [hxj] at h1 h2
      cases h1; cases h2
      exact (hg x (List.mem_of_getElem? hxj)).1
set_option maxRecDepth 100000 in
theorem open_tabN {r : Reach} {b0 : Nat} {v : Value} {d : DataW H} {p : List MemPlace} (hv : Value.okWide Try.prog W r b0 28 v) (h : DataW.Trod enc Try.prog W base spare held 28 v d p) (hf : Fit 28 d) : ∃ cs rs, TabAt W v cs rs ∧ RO.NumsIn rs := by
  obtain ⟨cs, rfl, hsz⟩ := okWide_struct Try.underlying28 hv
  obtain ⟨fuel, hfu⟩ := h
  obtain ⟨y0, y1, n, hx, hl, h0, h1⟩ := trod_struct2 Try.underlying28 hfu
  rw [cells25] at hl
  obtain ⟨l⟩ := cs
  replace hl : l.length = 2 := hl
  replace h0 : DataW.trod enc Try.prog W base spare held n 25 ((l.drop 0).take (Try.prog.cellsOf 25)) = some y0 := h0
  replace h1 : DataW.trod enc Try.prog W base spare held n 26 ((l.drop 1).take (Try.prog.cellsOf 26)) = some y1 := h1
  rw [cells22] at h0
  rw [cells23] at h1
  cases hx
  match l, hl with
  | [c, q], _ =>
    have f0 : Fit 25 y0.1 := fun m hm => hf m (by simp only [DataW.weights, Try.underlying28]; exact DataW.weights_mem_each (j := 0) (t := 25) rfl rfl m hm)
    have f1 : Fit 26 y1.1 := fun m hm => hf m (by simp only [DataW.weights, Try.underlying28]; exact DataW.weights_mem_each (j := 1) (t := 26) rfl rfl m hm)
    obtain ⟨cl, hc⟩ := open_cols h0 f0
    obtain ⟨rs, hr, hn⟩ := open_rowsN h1 f1
    exact ⟨cl, rs, ⟨c, q, rfl, hc, hr⟩, hn⟩
end
end Go.Proofs.Ytopjpkkidjlbeaa.TN
namespace Go.Proofs.Ytopjpkkidjlbeaa.RO
open Go.ChangeShapes Go.WideShapes Go.ChangeAt Go.WideMaps Go.WideElems Go.RowKit Go.Joins
open Go.ChangeMaps (open_string shut_string)

set_option maxRecDepth 100000 in
theorem rowopsAligns_lifted (os : Os) (started : os.Started) (H : Type) (enc : TypeId × Value → H) :
    ReturnsInHanded {} Try.checked os 9 .any (Rows.rowopsAlignsSpec.pre6 enc Try.prog Try.f9 Rows.rowopsAlignsRow.domain false) (Rows.rowopsAlignsSpec.post enc Try.prog Try.f9 false true false false) := by
  refine returnsInHanded_of_change_sized (C := Try.checked) TN.own started (by kernel_rfl) Try.func9
    (ChangeSpec.witness6 (enc := enc) (C := Try.checked) false ⟨#[], #[.agg #[.slice none 0 0, .slice none 0 0], .int .i64 0], []⟩ 8 (by kernel_rfl) (by kernel_rfl) (by kernel_rfl) (by kernel_rfl)) ?_
  intro W base args ds gs before hval0 hW _ hsz _
  have hval : ∀ (j : Nat) t v, Try.f9.params[j]? = some t → args[j]? = some v → Value.okWide Try.prog W .any base t v := hval0
  have hW' := hW
  obtain ⟨p, q, hA0, hV, rfl, _, _⟩ := hW
  have hA : DataW.TrodAll enc Try.prog W 0 (fun _ => true) true Try.f9.params.toList args.toList ds p := hA0
  rw [Try.params9] at hA hval
  obtain ⟨v0, vs0, d0, ds0, p0, q0, hargs, rfl, rfl, h0, r0⟩ := trodAll_cons hA
  obtain ⟨v1, vs1, d1, ds1, p1, q1, rfl, rfl, rfl, h1, r1⟩ := trodAll_cons r0
  obtain ⟨rfl, rfl, rfl⟩ := trodAll_nil r1
  obtain rfl : args = #[v0, v1] := by cases args; simp_all
  obtain ⟨rfl, rfl⟩ := trodVars_none hV
  have k0 := h0
  have lt0 : ∀ x ∈ p0, x.block < W.heap.size := by obtain ⟨m, hm⟩ := k0; exact DataW.trod_lt m _ _ _ hm
  have f0 : TN.Fit 28 d0 := TN.fit_of hsz (j := 0) (by rw [show Try.checked.prog = Try.prog from rfl, Try.params9]; rfl) rfl
  obtain ⟨cs0, rs0, x0, nn0⟩ := TN.open_tabN (hval 0 28 v0 rfl rfl) h0 f0
  obtain ⟨i1, rfl, rfl, rfl, x1⟩ := open_int Try.underlying3 (hval 1 3 v1 rfl rfl) h1
  have o1 : TN.Ok64 i1 := TN.ok64_of x1
  clear hA0 hval0
  refine (aligns_any x0 o1 nn0).mono fun e W' ⟨he, bel⟩ => ?_
  subst he
  exact ⟨_, rfl, _, _, _, [], _, [], hW', trodAll_mk1 (shut_bool Try.underlying4 _), (trodAll_cons_mk (Below.trod TN.laidOut (by kernel_rfl) (of_decide_eq_true (by kernel_rfl)) k0 bel lt0) (trodAll_cons_mk (shut_int Try.underlying3 x1) trodAll_mk0)), rfl, bel.frame _, fun h => by cases h⟩
end Go.Proofs.Ytopjpkkidjlbeaa.RO
namespace Go.Proofs.Ytopjpkkidjlbeaa
open Go.ChangeShapes Go.WideShapes Go.ChangeAt Go.WideMaps Go.WideElems Go.RowKit Go.Joins

theorem rowopsAligns_said : Rows.RowopsAlignsSaid :=
  OpenClaim.holds_of_wide 9 Try.f9 rfl rfl rfl rfl rfl rfl rfl ⟨rfl, rfl, rfl, rfl, rfl⟩ rfl rfl rfl rfl rfl (by kernel_rfl) Try.func9 (by kernel_rfl)
    (of_decide_eq_true (by kernel_rfl)) (by unfold Func.isWrapper; first | (rw [if_pos (by decide +kernel)]; kernel_rfl) | (rw [if_neg (by decide +kernel)]; exact ⟨rfl, rfl⟩))
    (fun os started H enc _ => RO.rowopsAligns_lifted os started H enc)

#print axioms rowopsAligns_said
end Go.Proofs.Ytopjpkkidjlbeaa
