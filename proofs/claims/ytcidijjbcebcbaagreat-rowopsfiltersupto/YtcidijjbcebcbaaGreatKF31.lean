/-
  RowopsFilters, walked.
  A named variable's block, read out of the world's shape; the wrap that hands the shape on.
  The wrap that hands the world's shape on, where the specification bears a condition of its own.
  The arguments opened as their types say: a table lies in memory as rows and columns of plain data.
-/
import Derived.Test.YtcidijjbcebcbaaGreatKF06
import Derived.Test.YtcidijjbcebcbaaGreatKF08
import Derived.Test.YtcidijjbcebcbaaGreatKF09
import Derived.Test.YtcidijjbcebcbaaGreatKF13
import Derived.Test.YtcidijjbcebcbaaGreatKF28
import Derived.Test.YtcidijjbcebcbaaGreatKF29
import Derived.Test.YtcidijjbcebcbaaGreatKF30
import Derived.Deep.CutBlock
import Derived.SizedLaws
import Derived.ShapedOpen
import Derived.Deep.CondSized
import Derived.ProofKit
import Derived.LaidMore
import Derived.OpenShut
import Derived.Deep.Slices
namespace Go.Proofs.YtcidijjbcebcbaaGreat.PD
open Go.RowKit Go.Joins Go.Sort

theorem qx_on {B : Nat} {w w' : World} {nv : Value} {qs : List Nx} (h : Qx (fun b => b < B) w nv qs) (hB : B ≤ w.heap.size) (hb : Below w.heap.size w w') : Qx (fun b => b < w'.heap.size) w' nv qs := by
  have hs := hb.size
  have h1 := h.kp (T := fun _ => False) (Kp.of hb) (fun _ _ => id)
  exact ⟨h1.sl.imp (fun b hb => by omega), fun q hq => ⟨(h1.each q hq).l.imp (fun b hb => by omega), (h1.each q hq).n.imp (fun b hb => by omega), (h1.each q hq).g.imp (fun b hb => by omega)⟩⟩
set_option maxRecDepth 100000 in
set_option maxHeartbeats 16000000 in
theorem filters_any {nv tv : Value} {i : Int} {qs : List Nx} {cs : List TN.Cl} {rs : List TN.Rw} {w : World} (hq : Qx (fun b => b < w.heap.size) w nv qs) (ht : TN.TabAt w tv cs rs) (hM : Mx w) (hz : ∀ r ∈ rs, Rsz r) (hvs : ∀ q ∈ qs, (St q.np.vs).size ≤ 1000000000000) : Calls Tryz.prog 3 #[tv, .agg #[nv], .int .i64 i] w fun e w' => e = .returned (.bool true) ∧ Below w.heap.size w w' := by
  obtain ⟨cv, rv, rfl, hcs, hs, hrs, hhs⟩ := ht
  obtain ⟨W, hW⟩ : ∃ W, W = (w.alloc (.cells #[cv, rv] 25)).alloc (.cells #[nv] 28) := ⟨_, rfl⟩
  have hb0 : Below w.heap.size w W := by rw [hW]; exact ((Below.refl _ _).alloc (Nat.le_refl _) _).alloc (by simp) _
  have k0 : W.heap[w.heap.size]? = some (.cells #[cv, rv] 25 (0, 0)) := by rw [hW]; exact block_on (alloc_block w _) ((Below.refl _ _).alloc (Nat.le_refl _) _)
  have k1 : W.heap[w.heap.size + 1]? = some (.cells #[nv] 28 (0, 0)) := by rw [hW]; have := alloc_block (w.alloc (.cells #[cv, rv] 25)) (.cells #[nv] 28); simpa using this
  have HB0 := hid hb0
  have HK0 := hid k0
  have HK1 := hid k1
  have HQ0 := hid (hq.kp (T := fun _ => False) (Kp.of hb0) (fun _ _ => id))
  have HC0 := hid ((TN.SlAt.low hcs (by decide) TN.cl_len).imp (fun b hb => hb.2) |>.on hb0)
  have HR0 := hid ((TN.SlAt.low hrs (by decide) TN.one_len).imp (fun b hb => hb.2) |>.on hb0)
  have HH0 := hid (TN.HeadsIn.on (TN.heads_low hhs) hb0)
  have HM0 := hid (hM.on hb0)
  have HW := hid hW
  have HP := hid (mx_pos hM)
  have HZ := hid hz
  have HV := hid hvs
  have HSh := hid RO.shown6_any
  obtain ⟨pc, cc, rfl, -⟩ := hcs
  obtain ⟨pr0, cr0, rfl, -⟩ := hrs
  obtain ⟨pn0, cn0, rfl, hcn1, hcn2⟩ := hq.sl.form
  clear hb0 k0 k1 hW hhs hq hM hz hvs
  go_enter Tryz.func3, Tryz.ntmps3
  go_upto_region 1 with fail
  rw [← HW.out]
  clear HW
  go_upto_region 2 with (first
    | (go_at_call 4; refine (HSh.out _).mono ?_; rintro e w1 ⟨rfl, hb⟩; have HB1 := hid (TN.below_on HB0.out hb); have hk1 := block_on HK0.out hb; have HK01 := hid hk1; have HK11 := hid (block_on HK1.out hb); have y2 := block_cell hk1; have HQ1 := hid (HQ0.out.kp (T := fun _ => False) (Kp.of hb) (fun _ _ => id)); have HC1 := hid (HC0.out.on hb); have HR1 := hid (HR0.out.on hb); have HH1 := hid (HH0.out.on hb); have HM1 := hid (HM0.out.on hb); clear hb hk1))
  go_upto_region 3 with (first
    | (go_at_call 5; refine (TN.cut6_q HC1.out HR1.out HH1.out).mono ?_; rintro e w4 ⟨r2, rfl, hr2, hh2, hb⟩; have hrz : ∀ r ∈ rs.take 100, Rsz r := (fun r hr => HZ.out r (List.mem_of_mem_take hr)); have hr1 : (rs.take 100).length ≤ 100 := (by rw [List.length_take]; omega); generalize hs.take 100 = hs4 at *; generalize rs.take 100 = rs4 at *; have HRz := hid hrz; have HLR := hid hr1; have HB4 := hid (TN.below_on HB1.out hb); have HKt4 := hid (block_on HK01.out hb); have HKq4 := hid (block_on HK11.out hb); have HQ4 := hid (HQ1.out.kp (T := fun _ => False) (Kp.of hb) (fun _ _ => id)); have HM4 := hid (HM1.out.on hb); have HC4 := hid (HC1.out.on hb); have HR4 := hid hr2; have HH4 := hid hh2; obtain ⟨pr, cr, rfl, -⟩ := hr2; have y4 := block_cell HKt4.out; have y5 := block_frozen HKt4.out; clear hb hh2 hr1 hrz y2))
  have KF := block_set (block_set HKt4.out 0 (.slice pc cs.length cc)) 1 (.slice pr hs4.length cr)
  have hkf : Kp (fun b => b = w.heap.size) w4 ((w4.setCell ⟨w.heap.size, 0, none⟩ (.slice pc cs.length cc)).setCell ⟨w.heap.size, 1, none⟩ (.slice pr hs4.length cr)) := (Kp.set (T := fun b => b = w.heap.size) rfl _).trans (Kp.set (T := fun b => b = w.heap.size) rfl _)
  have HKt5 : Hid (((w4.setCell ⟨w.heap.size, 0, none⟩ (.slice pc cs.length cc)).setCell ⟨w.heap.size, 1, none⟩ (.slice pr hs4.length cr)).heap[w.heap.size]? = some (.cells #[.slice pc cs.length cc, .slice pr hs4.length cr] 25 (0, 0))) := hid KF
  have HKq5 := hid (hkf.blk HKq4.out (by omega))
  have HQ5 := hid (HQ4.out.kp hkf (fun b hb e => by omega))
  have HB5 := hid (HB4.out.trans (hkf.below HB4.out.size (fun b e => by omega)))
  have HM5 := hid (mx_kp HM4.out hkf (by have := HP.out; omega))
  have hT5 : TN.TabIn (fun b => b < w.heap.size) ((w4.setCell ⟨w.heap.size, 0, none⟩ (.slice pc cs.length cc)).setCell ⟨w.heap.size, 1, none⟩ (.slice pr hs4.length cr)) (.agg #[.slice pc cs.length cc, .slice pr hs4.length cr]) cs rs4 := TN.TabIn.set (fun b hb => by omega) (TN.TabIn.set (fun b hb => by omega) ⟨_, _, rfl, HC4.out, hs4, HR4.out, HH4.out⟩)
  have HT5 := hid hT5
  clear KF hkf y4 y5 HC4 HR4 HH4 HQ4 HM4 hT5
  generalize (w4.setCell ⟨w.heap.size, 0, none⟩ (.slice pc cs.length cc)).setCell ⟨w.heap.size, 1, none⟩ (.slice pr hs4.length cr) = w5 at *
  unfold maxLen at hcn2
  have yq := block_cell HKq5.out
  have xq := block_frozen HKq5.out
  have y1 := block_cell HKt5.out
  go_upto_if 19 with fail
  go_cut [] from 16 to 23 (fun wx => ∃ pn2 n2 cn2, Hid (wx.heap[w.heap.size + 1]? = some (.cells #[.slice pn2 n2 cn2] 28 (0, 0))) ∧ Hid (Qx (fun b => b < w.heap.size) wx (.slice pn2 n2 cn2) (qs.take 100)) ∧ Hid (Kp (fun b => b = w.heap.size + 1) w5 wx))
  case first =>
    by_cases h100 : 100 < qs.length
    · have g : (qs.length : Int) > 100 := by omega
      have g1 : (100 : Int) < qs.length := by omega
      have g2 : (100 : Nat) ≤ cn0 := by omega
      go_wp2_with fail
      go_meet
      case rel =>
        have hk := Kp.set (T := fun b => b = w.heap.size + 1) (w := w5) (b := w.heap.size + 1) (i := 0) rfl (.slice pn0 100 cn0)
        exact ⟨_, _, _, block_set HKq5.out 0 (.slice pn0 100 cn0), (qx_take HQ5.out 100 (by omega)).kp hk (fun b hb e => by omega), hk⟩
    · have g : ¬ (qs.length : Int) > 100 := by omega
      have g1 : ¬ (100 : Int) < qs.length := by omega
      go_wp2_with fail
      go_meet
      case rel => exact ⟨_, _, _, HKq5.out, by rw [List.take_of_length_le (by omega)]; exact HQ5.out, Kp.refl _ _⟩
  case rest =>
  obtain ⟨pn2, n2, cn2, HKq6, HQ6, HK6⟩ := hcut
  have HQL : Hid ((qs.take 100).length ≤ 1000) := hid (by rw [List.length_take]; omega)
  have HV2 : Hid (∀ q ∈ qs.take 100, (St q.np.vs).size ≤ 1000000000000) := hid (fun q hq => HV.out q (List.mem_of_mem_take hq))
  generalize qs.take 100 = qs2 at *
  have HKt6 := hid (HK6.out.blk HKt5.out (by omega))
  have HB6 := hid (HB5.out.trans (HK6.out.below HB5.out.size (fun b e => by omega)))
  have HM6 := hid (mx_kp HM5.out HK6.out (by have := HP.out; omega))
  have HT6 : Hid (TN.TabAt wc (.agg #[.slice pc cs.length cc, .slice pr hs4.length cr]) cs rs4) := hid (by
    obtain ⟨c', r', e', hc, hs', hr, hh⟩ := HT5.out
    cases e'
    exact ⟨_, _, rfl, (tnSl_kp hc HK6.out (fun b hb e => by omega)).imp (fun _ _ => trivial), hs', (tnSl_kp hr HK6.out (fun b hb e => by omega)).imp (fun _ _ => trivial), ⟨hh.1, fun j x r h1 h2 => (tnSl_kp (hh.2 j x r h1 h2) HK6.out (fun b hb e => by omega)).imp (fun _ _ => trivial)⟩⟩)
  have hrl : rs4.length ≤ 1000000 := by have := HLR.out; omega
  have HFi := hid (fun W (hb : Below wc.heap.size wc W) => filter_any (i := i) (HT6.out.on hb) (qx_on HQ6.out HB6.out.size hb) HQL.out (HM6.out.on hb) HRz.out hrl)
  have HRi := hid (fun W (hb : Below wc.heap.size wc W) => rfilter_any (i := i) (HT6.out.on hb) (qx_on HQ6.out HB6.out.size hb) HQL.out HRz.out HV2.out hrl)
  clear hrl
  generalize TN.sortR (rs4.filter (holdsX cs qs2 i)) = R at *
  generalize RO.okE cs rs4 true = ok at *
  generalize RO.runE cs rs4 true = er at *
  clear yq xq y1
  have z0 := block_cell HKt6.out
  have z1 := block_cell HKq6.out
  go_upto_region 6 with (first
    | (go_at_call 6; go_loud (refine (HFi.out _ (Below.refl _ _)).mono ?_; rintro e w6 ⟨v6, rfl, ht6, hb⟩; have HT7 : Hid (TN.TabAt w6 v6 (if ok then cs else []) (if ok then R else [])) := hid (TN.TabIn.imp (show TN.TabIn (fun k => wc.heap.size ≤ k) w6 v6 _ _ from ht6) (fun _ _ => trivial)); obtain ⟨pc6, nc6, cc6, pr6, nr6, cr6, rfl⟩ := RO.tabE_form ht6; have HB7 := hid hb; clear hb ht6 z0 z1)))
  have k6 := alloc_block w6 (.cells #[.slice pc6 nc6 cc6, .slice pr6 nr6 cr6] 25)
  have ha6 : Below w6.heap.size w6 (w6.alloc (.cells #[.slice pc6 nc6 cc6, .slice pr6 nr6 cr6] 25)) := (Below.refl _ _).alloc (Nat.le_refl _) _
  have HB8 := hid (TN.below_on HB7.out ha6)
  have HT8 := hid (HT7.out.on ha6)
  have K8 := hid k6
  clear HT7 k6 ha6
  generalize w6.alloc (.cells #[.slice pc6 nc6 cc6, .slice pr6 nr6 cr6] 25) = w7 at *
  have z0 := block_cell (block_on HKt6.out HB8.out)
  have z1 := block_cell (block_on HKq6.out HB8.out)
  go_upto_region 7 with (first
    | (go_at_call 7; refine (HRi.out _ HB8.out).mono ?_; rintro e w8 ⟨v8, rfl, hf8, ht8, hb⟩; have HT9 : Hid (TN.TabAt w8 v8 (if ok then cs else []) (if ok then R else [])) := hid ht8; obtain ⟨pc8, nc8, cc8, pr8, nr8, cr8, rfl⟩ := hf8; have HB9 := hid (TN.below_on HB8.out hb); have K9 := hid (block_on K8.out hb); have HT89 := hid (HT8.out.on hb); clear hb ht8 z0 z1))
  have k8 := alloc_block w8 (.cells #[.slice pc8 nc8 cc8, .slice pr8 nr8 cr8] 25)
  have ha8 : Below w8.heap.size w8 (w8.alloc (.cells #[.slice pc8 nc8 cc8, .slice pr8 nr8 cr8] 25)) := (Below.refl _ _).alloc (Nat.le_refl _) _
  have HBa := hid (TN.below_on HB9.out ha8)
  have HTa := hid (HT9.out.on ha8)
  have HT8a := hid (HT89.out.on ha8)
  have K8a := hid (block_on K9.out ha8)
  have Ka := hid k8
  clear HT9 HT89 k8 ha8 K9 K8 HT8
  generalize w8.alloc (.cells #[.slice pc8 nc8 cc8, .slice pr8 nr8 cr8] 25) = w9 at *
  have z2 := block_cell K8a.out
  have z3 := block_cell Ka.out
  have d1 : (er == er) = true := by simp
  go_wp2_with (first
    | (go_at_call 8; refine (TN.rsame_any HT8a.out HTa.out).mono ?_; rintro e w10 ⟨rfl, hb⟩; rw [decide_eq_true ⟨rfl, rfl⟩]; have HBb := hid (TN.below_on HBa.out hb); clear hb z2 z3))
  all_goals
    go_ret
    exact ⟨by simp, HB6.out.trans (HBb.out.mono HB6.out.size)⟩
end Go.Proofs.YtcidijjbcebcbaaGreat.PD
namespace Go
section
variable {H : Type} {enc : TypeId × Value → H}
theorem Proofs.YtcidijjbcebcbaaGreat.returns_shaped {a : Assume} {C : Checked} {os : Os} {f : FuncId} {fn : Func} {s : ChangeSpec} {conds : List PathCond} {apart fresh handsOn again : Bool}
    (own : ownKnob C.prog.godebug = none) (started : os.Started) (noInit : C.prog.inits.idxOf? f = none) (hfn : C.prog.funcs[f]? = some fn)
    (witness : ∃ (w : World) (tape : Tape) (i : Input), w.os = os ∧ (w.forCall tape i).Shaped C.prog ∧ i.vars = [] ∧ Input.okWide C.prog (w.forCall tape i) .any w.heap.size f i ∧
      s.pre6 enc C.prog fn conds apart (w.forCall tape i).memory i.args ∧ a.holds C.prog (lone (Frame.enter C.prog f i.args .normal) [] (w.forCall tape i)))
    (contract : ∀ (W : World) (base : Nat) (args : Array Value) (ds gs : List (DataW H)) (before : List MemPlace), W.ShapedOpen C.prog →
      (∀ (j : Nat) t v, fn.params[j]? = some t → args[j]? = some v → Value.okWide C.prog W .any base t v) →
      DataW.Whole enc C.prog fn.params.toList s.vars apart W args.toList ds gs before →
      conds.all (PathCond.test C.prog ⟨fn.params.toList, ds, s.plain.varTypes C.prog, gs⟩) = true →
      (DataW.weightsEach C.prog (fn.params.toList ++ s.plain.varTypes C.prog) (ds ++ gs)).all (· ≤ reachBytes) = true →
      a.holds C.prog (lone (Frame.enter C.prog f args .normal) [] W) →
      Calls C.prog f args W fun e W' => ∃ v, e = .returned v ∧ s.post enc C.prog fn apart fresh handsOn again W args v W') :
    ReturnsInHanded a C os f .any (s.pre6 enc C.prog fn conds apart) (s.post enc C.prog fn apart fresh handsOn again) := by
  refine returnsInHanded_of_calls own started noInit witness ?_
  intro w tape i _ hsh _ hok hpre hholds
  obtain ⟨_, _, _, fn', hfn', _, _, _, _, hval⟩ := hok
  have e : fn' = fn := Option.some.inj (hfn'.symm.trans hfn)
  subst e
  obtain ⟨⟨ds, gs, before, hw, hc⟩, hz⟩ := hpre
  have hw' := DataW.Whole.of_heap (w' := w.forCall tape i) (by rfl) hw
  refine (contract (w.forCall tape i) w.heap.size i.args ds gs before hsh hval hw' hc (hz.weights hw) hholds).mono fun e W' ⟨v, he, hp⟩ => ?_
  subst he
  exact ChangeSpec.post_blind hp
end
end Go
namespace Go.Proofs.YtcidijjbcebcbaaGreat.PD
open Go.RowKit

set_option maxRecDepth 100000 in
theorem mx_of_shape {w : World} (h : w.ShapedOpen Tryz.prog) : Mx w := by
  obtain ⟨cs, hh, hs, hr⟩ := h.1 0 #[.int .i64 0] 3 (of_decide_eq_true (by kernel_rfl)) (by kernel_rfl)
  obtain ⟨ts, hts, _, hall⟩ := hr (by kernel_rfl)
  have hc : Tryz.prog.cellTypes Tryz.prog.depth 3 = some [3] := by kernel_rfl
  rw [hc] at hts
  cases hts
  have h1 : 0 < cs.size := by rw [hs]; decide
  obtain ⟨u, hu, hok⟩ := hall 0 cs[0] (Array.getElem?_eq_getElem h1)
  simp at hu
  subst hu
  unfold Cell.ok at hok
  rw [Tryz.underlying3] at hok
  generalize hv : cs[0] = v at hok
  cases v <;> try exact hok.elim
  rename_i k n
  obtain ⟨rfl, -⟩ := hok
  exact ⟨n, by simp [World.cell?, hh, h1, hv]⟩
end Go.Proofs.YtcidijjbcebcbaaGreat.PD
namespace Go
section
variable {H : Type} {enc : TypeId × Value → H}
theorem Proofs.YtcidijjbcebcbaaGreat.returns_shaped_cond {a : Assume} {C : Checked} {os : Os} {f : FuncId} {fn : Func} {s : OpenSpec} {k : (H : Type) → List (DataW H) → Bool} (hk : s.cond = some k) {F : Stop.Interp} {conds : List PathCond} {apart fresh handsOn again : Bool}
    (own : ownKnob C.prog.godebug = none) (started : os.Started) (noInit : C.prog.inits.idxOf? f = none) (hfn : C.prog.funcs[f]? = some fn)
    (witness : ∃ (w : World) (tape : Tape) (i : Input), w.os = os ∧ (w.forCall tape i).Shaped C.prog ∧ i.vars = [] ∧ Input.okWide C.prog (w.forCall tape i) .any w.heap.size f i ∧
      s.pre6 enc C.prog fn conds apart (w.forCall tape i).memory i.args ∧ a.holds C.prog (lone (Frame.enter C.prog f i.args .normal) [] (w.forCall tape i)))
    (contract : ∀ (W : World) (base : Nat) (args : Array Value) (ds gs : List (DataW H)) (before : List MemPlace), W.ShapedOpen C.prog →
      (∀ (j : Nat) t v, fn.params[j]? = some t → args[j]? = some v → Value.okWide C.prog W .any base t v) →
      DataW.Whole enc C.prog fn.params.toList s.vars apart W args.toList ds gs before → k H (ds ++ gs) = true →
      (DataW.weightsEach C.prog (fn.params.toList ++ s.bare.plain.varTypes C.prog) (ds ++ gs)).all (· ≤ reachBytes) = true →
      Calls C.prog f args W fun e W' => ∃ v, e = .returned v ∧ (s.at F).post enc C.prog fn apart fresh handsOn again W args v W') :
    ReturnsInHanded a C os f .any (s.pre6 enc C.prog fn conds apart) ((s.at F).post enc C.prog fn apart fresh handsOn again) := by
  refine returnsInHanded_of_calls own started noInit witness ?_
  intro w tape i _ hsh _ hok hpre _
  obtain ⟨_, _, _, fn2, hfn2, _, _, _, _, hval⟩ := hok
  obtain rfl : fn2 = fn := Option.some.inj (hfn2.symm.trans hfn)
  obtain ⟨ds, gs, before, hw, -, hkk⟩ := (OpenSpec.pre_some hk conds apart _ _).1 hpre.1
  refine (contract (w.forCall tape i) w.heap.size i.args ds gs before hsh hval (DataW.Whole.of_heap (w' := w.forCall tape i) (by rfl) hw) hkk (hpre.2.weights hw)).mono ?_
  rintro e W' ⟨v, rfl, hp⟩
  exact ChangeSpec.post_blind hp
end
end Go
namespace Go.Proofs.YtcidijjbcebcbaaGreat.PD
open Go.RowKit

theorem shaped_open {w : World} (h : w.ShapedOpen Tryz.prog) : Mx w := mx_of_shape h
end Go.Proofs.YtcidijjbcebcbaaGreat.PD
namespace Go.Proofs.YtcidijjbcebcbaaGreat.TN
open Go.ChangeShapes Go.WideShapes Go.ChangeAt Go.WideMaps Go.WideElems Go.RowKit Go.Joins

theorem own : ownKnob Tryz.prog.godebug = none := by kernel_rfl
theorem laidOut : laidOutB Tryz.prog = true := by kernel_rfl
theorem cells3 : Tryz.prog.cellsOf 3 = 1 := by kernel_rfl
theorem cells9 : Tryz.prog.cellsOf 9 = 1 := by kernel_rfl
theorem cells22 : Tryz.prog.cellsOf 22 = 1 := by kernel_rfl
theorem cells23 : Tryz.prog.cellsOf 23 = 1 := by kernel_rfl
theorem cells25 : Tryz.prog.cellsOf 25 = 2 := by kernel_rfl
theorem cells35 : Tryz.prog.cellsOf 45 = 1 := by kernel_rfl
theorem cells45 : Tryz.prog.cellsOf 48 = 2 := by kernel_rfl
theorem cells46 : Tryz.prog.cellsOf 50 = 8 := by kernel_rfl
theorem cells48 : Tryz.prog.cellsOf 52 = 11 := by kernel_rfl
theorem bytes35 : Tryz.prog.bytesOf 45 = bsz 1 := by kernel_rfl
theorem bytes45 : Tryz.prog.bytesOf 48 = bsz 2 := by kernel_rfl
theorem bytes48 : Tryz.prog.bytesOf 52 = bsz 11 := by kernel_rfl
def Ok64 (n : Int) : Prop := -9223372036854775808 ≤ n ∧ n ≤ 9223372036854775807
theorem ok64_of {n : Int} (h : (Lit.int .i64 n).wf = true) : Ok64 n := by
  have e1 : IntKind.i64.min = -9223372036854775808 := rfl
  have e2 : IntKind.i64.max = 9223372036854775807 := rfl
  simp [Lit.wf, e1, e2] at h
  exact h
/- Each string and each slice of it takes no more than the form's reach. -/
def Fit {H : Type} (t : TypeId) (d : DataW H) : Prop := ∀ n ∈ d.weights Tryz.prog t, n ≤ reachBytes
theorem weightsAll_mem {H : Type} {e : TypeId} : ∀ {l : List (DataW H)} {d : DataW H}, d ∈ l → ∀ n ∈ d.weights Tryz.prog e, n ∈ DataW.weightsAll Tryz.prog e l
  | d' :: r, d, hd, n, hn => by
    simp only [DataW.weightsAll, List.mem_append]
    rcases List.mem_cons.1 hd with rfl | h
    · exact Or.inl hn
    · exact Or.inr (weightsAll_mem h n hn)
section
variable {H : Type} {enc : TypeId × Value → H} {W : World} {base : Nat} {spare : Nat → Bool} {held : Bool}
theorem fit_elem {t e : TypeId} (ht : Tryz.prog.underlying t = some (.slice e)) {es sp : List (DataW H)} (hf : Fit t (.slice es sp)) : (∀ d ∈ es, Fit e d) ∧ es.length * Tryz.prog.bytesOf e ≤ 140737488355328 := by
  constructor
  · intro d hd n hn
    exact hf n (by simp only [DataW.weights, ht, List.mem_cons, List.mem_append]; exact Or.inr (Or.inl (weightsAll_mem hd n hn)))
  · have := hf ((es.length + sp.length) * Tryz.prog.bytesOf e) (by simp only [DataW.weights, ht]; exact List.mem_cons_self ..)
    unfold reachBytes at this
    have h2 : es.length * Tryz.prog.bytesOf e ≤ (es.length + sp.length) * Tryz.prog.bytesOf e := Nat.mul_le_mul_right _ (Nat.le_add_right _ _)
    omega
/- A slice, elements that open one by one. -/
theorem open_sl {α : Type} [Inhabited α] {en : α → List Value} {k : Nat} {Good : α → Prop} {t e : TypeId} (ht : Tryz.prog.underlying t = some (.slice e)) (hc : Tryz.prog.cellsOf e = k) (hk : 0 < k) (hen : ∀ x, (en x).length = k) (hb : Tryz.prog.bytesOf e ≥ bsz k)
    (each : ∀ n cs (y : DataW H × List MemPlace), DataW.trod enc Tryz.prog W base spare held n e cs = some y → Fit e y.1 → ∃ x, cs = en x ∧ Good x) {fuel : Nat} {v : Value} {y : DataW H × List MemPlace}
    (h : DataW.trod enc Tryz.prog W base spare held fuel t [v] = some y) (hf : Fit t y.1) : ∃ xs, SlAt any en k W v xs ∧ ∀ x ∈ xs, Good x := by
  rcases Deep.open_slice ht h with ⟨hcs, _⟩ | ⟨a, len, cap, m, n, D, Pl, hcs, hba, hl, hm, hmm, hx, hall⟩
  · cases hcs
    exact ⟨[], SlAt.nil _ _ _ _, fun x hx => by cases hx⟩
  · cases hcs
    subst hx
    have hlm : len ≤ m := by rw [hmm]; split <;> omega
    obtain ⟨hfe, hbe⟩ := fit_elem ht hf
    obtain ⟨X, hX⟩ := Deep.choose_lt (α := α) (n := len) (p := fun i x => W.cells? base (a.add (i * k)) k = some (en x) ∧ Good x) (fun i hi => by
      obtain ⟨cs', h1, h2⟩ := hall i (by omega)
      rw [hc] at h1
      obtain ⟨x, rfl, hg⟩ := each n cs' _ h2 (hfe _ (List.mem_map.2 ⟨i, List.mem_range.2 hi, rfl⟩))
      exact ⟨x, h1, hg⟩)
    have hlen : ((List.range len).map X).length = len := by simp
    refine ⟨(List.range len).map X, ⟨some a, cap, by rw [hlen], ⟨by rw [hlen]; exact hl, fun e => by cases e⟩, by rw [hlen]; omega, fun hne => ?_⟩, ?_⟩
    · have h0 : 0 < len := Nat.pos_of_ne_zero (fun e => hne (by rw [e]; rfl))
      obtain ⟨b, off, spot⟩ := a
      have hsp : spot = none := by
        have h1 := (World.cells?_some (hX 0 h0).1).2.2 0 hk
        rw [Nat.zero_mul] at h1
        have h2 : (en (X 0))[0]? = some ((en (X 0))[0]'(by rw [hen]; exact hk)) := List.getElem?_eq_getElem _
        rw [h2] at h1
        simpa [Addr.add] using World.cell?_spot h1
      subst hsp
      refine ⟨b, off, rfl, ⟨trivial, ?_⟩, fun j x hj i u hu => ?_⟩
      · rw [hlen]
        simp only [List.length_map, List.length_range] at hbe
        exact Nat.le_trans (Nat.mul_le_mul_left _ hb) hbe
      · have hj' : j < len := by have := (List.getElem?_eq_some_iff.1 hj).1; rwa [hlen] at this
        have hxj : X j = x := by simpa [List.getElem?_map, List.getElem?_range hj'] using hj
        subst hxj
        have hi : i < k := by have := (List.getElem?_eq_some_iff.1 hu).1; rwa [hen] at this
        have h1 := (World.cells?_some (hX j hj').1).2.2 i hi
        rw [hu, Addr.add_lit, Addr.add_lit] at h1
        exact h1
    · intro x hx
      obtain ⟨i, hi, rfl⟩ := List.mem_map.1 hx
      exact (hX i (List.mem_range.1 hi)).2
set_option maxRecDepth 100000 in
theorem open_cells8 {m : Nat} {cs : List Value} {y : DataW H × List MemPlace} (h : DataW.trod enc Tryz.prog W base spare held m 50 cs = some y) :
    ∃ a0 a1 a2 a3 a4 a5 a6 a7 : Int, cs = [.int .i64 a0, .int .i64 a1, .int .i64 a2, .int .i64 a3, .int .i64 a4, .int .i64 a5, .int .i64 a6, .int .i64 a7] := by
  obtain ⟨xs, m1, rfl, hx1, hlen, hn, hel⟩ := DataW.trod_array Tryz.underlying50 h
  rw [cells46] at hlen
  rw [cells3] at hel
  match cs, hlen with
  | [c0, c1, c2, c3, c4, c5, c6, c7], _ =>
    match xs, hn with
    | [x0, x1, x2, x3, x4, x5, x6, x7], _ =>
      obtain ⟨a0, e0, _⟩ := DataW.trod_int Tryz.underlying3 (show DataW.trod enc Tryz.prog W base spare held m1 3 _ = some x0 from hel 0 (by decide))
      obtain ⟨a1, e1, _⟩ := DataW.trod_int Tryz.underlying3 (show DataW.trod enc Tryz.prog W base spare held m1 3 _ = some x1 from hel 1 (by decide))
      obtain ⟨a2, e2, _⟩ := DataW.trod_int Tryz.underlying3 (show DataW.trod enc Tryz.prog W base spare held m1 3 _ = some x2 from hel 2 (by decide))
      obtain ⟨a3, e3, _⟩ := DataW.trod_int Tryz.underlying3 (show DataW.trod enc Tryz.prog W base spare held m1 3 _ = some x3 from hel 3 (by decide))
      obtain ⟨a4, e4, _⟩ := DataW.trod_int Tryz.underlying3 (show DataW.trod enc Tryz.prog W base spare held m1 3 _ = some x4 from hel 4 (by decide))
      obtain ⟨a5, e5, _⟩ := DataW.trod_int Tryz.underlying3 (show DataW.trod enc Tryz.prog W base spare held m1 3 _ = some x5 from hel 5 (by decide))
      obtain ⟨a6, e6, _⟩ := DataW.trod_int Tryz.underlying3 (show DataW.trod enc Tryz.prog W base spare held m1 3 _ = some x6 from hel 6 (by decide))
      obtain ⟨a7, e7, _⟩ := DataW.trod_int Tryz.underlying3 (show DataW.trod enc Tryz.prog W base spare held m1 3 _ = some x7 from hel 7 (by decide))
      simp at e0 e1 e2 e3 e4 e5 e6 e7
      subst e0 e1 e2 e3 e4 e5 e6 e7
      exact ⟨a0, a1, a2, a3, a4, a5, a6, a7, rfl⟩
set_option maxRecDepth 100000 in
theorem open_val {m : Nat} {cs : List Value} {y : DataW H × List MemPlace} (h : DataW.trod enc Tryz.prog W base spare held m 52 cs = some y) : ∃ x : Vl, cs = x.cells := by
  obtain ⟨y0, y1, y2, y3, n, hx, hl, h0, h1, h2, h3⟩ := trod_struct4 Tryz.underlying52 h
  rw [cells48] at hl
  replace h0 : DataW.trod enc Tryz.prog W base spare held n 3 ((cs.drop 0).take (Tryz.prog.cellsOf 3)) = some y0 := h0
  replace h1 : DataW.trod enc Tryz.prog W base spare held n 3 ((cs.drop 1).take (Tryz.prog.cellsOf 3)) = some y1 := h1
  replace h2 : DataW.trod enc Tryz.prog W base spare held n 9 ((cs.drop 2).take (Tryz.prog.cellsOf 9)) = some y2 := h2
  replace h3 : DataW.trod enc Tryz.prog W base spare held n 50 ((cs.drop 3).take (Tryz.prog.cellsOf 50)) = some y3 := h3
  rw [cells3] at h0 h1
  rw [cells9] at h2
  rw [cells46] at h3
  match cs, hl with
  | [c0, c1, c2, c3, c4, c5, c6, c7, c8, c9, c10], _ =>
    obtain ⟨k, e0, _⟩ := DataW.trod_int Tryz.underlying3 h0
    obtain ⟨n, e1, _⟩ := DataW.trod_int Tryz.underlying3 h1
    obtain ⟨s, e2, _, w2⟩ := DataW.trod_string Tryz.underlying9 h2
    obtain ⟨a0, a1, a2, a3, a4, a5, a6, a7, e3⟩ := open_cells8 h3
    simp at e0 e1 e2 e3
    obtain ⟨e3, e4, e5, e6, e7, e8, e9, e10⟩ := e3
    subst e0 e1 e2 e3 e4 e5 e6 e7 e8 e9 e10
    exact ⟨⟨k, n, s, a0, a1, a2, a3, a4, a5, a6, a7, w2⟩, rfl⟩
theorem open_col {m : Nat} {cs : List Value} {y : DataW H × List MemPlace} (h : DataW.trod enc Tryz.prog W base spare held m 48 cs = some y) : ∃ x : Cl, cs = x.cells := by
  obtain ⟨y0, y1, n, hx, hl, h0, h1⟩ := trod_struct2 Tryz.underlying48 h
  rw [cells45] at hl
  replace h0 : DataW.trod enc Tryz.prog W base spare held n 9 ((cs.drop 0).take (Tryz.prog.cellsOf 9)) = some y0 := h0
  replace h1 : DataW.trod enc Tryz.prog W base spare held n 3 ((cs.drop 1).take (Tryz.prog.cellsOf 3)) = some y1 := h1
  rw [cells9] at h0
  rw [cells3] at h1
  match cs, hl with
  | [c0, c1], _ =>
    obtain ⟨s, e0, _, w0⟩ := DataW.trod_string Tryz.underlying9 h0
    obtain ⟨k, e1, _⟩ := DataW.trod_int Tryz.underlying3 h1
    simp at e0 e1
    subst e0 e1
    exact ⟨⟨s, k, w0⟩, rfl⟩
instance : Inhabited Vl := ⟨⟨0, 0, ⟨#[]⟩, 0, 0, 0, 0, 0, 0, 0, 0, by decide⟩⟩
theorem open_row {fuel : Nat} {v : Value} {y : DataW H × List MemPlace} (h : DataW.trod enc Tryz.prog W base spare held fuel 45 [v] = some y) (hf : Fit 45 y.1) : ∃ r : Rw, RowAt W v r := by
  obtain ⟨r, hr, _⟩ := open_sl (α := Vl) (en := Vl.cells) (k := 11) (Good := fun _ => True) Tryz.underlying45 cells48 (by decide) vl_len (by rw [bytes48]; exact Nat.le_refl _) (fun n cs y h _ => let ⟨x, hx⟩ := open_val h; ⟨x, hx, trivial⟩) h hf
  exact ⟨r, hr⟩
theorem open_cols {fuel : Nat} {v : Value} {y : DataW H × List MemPlace} (h : DataW.trod enc Tryz.prog W base spare held fuel 22 [v] = some y) (hf : Fit 22 y.1) : ∃ cs : List Cl, ColsAt W v cs := by
  obtain ⟨r, hr, _⟩ := open_sl (α := Cl) (en := Cl.cells) (k := 2) (Good := fun _ => True) Tryz.underlying22 cells45 (by decide) cl_len (by rw [bytes45]; exact Nat.le_refl _) (fun n cs y h _ => let ⟨x, hx⟩ := open_col h; ⟨x, hx, trivial⟩) h hf
  exact ⟨r, hr⟩
def enP (x : Value × Rw) : List Value := [x.1]
instance : Inhabited (Value × Rw) := ⟨(.bool false, [])⟩
theorem open_rows {fuel : Nat} {v : Value} {y : DataW H × List MemPlace} (h : DataW.trod enc Tryz.prog W base spare held fuel 23 [v] = some y) (hf : Fit 23 y.1) : ∃ rs : List Rw, RowsAt W v rs := by
  obtain ⟨xs, ⟨p, cap, hv, hc, hm, hx⟩, hg⟩ := open_sl (α := Value × Rw) (en := enP) (k := 1) (Good := fun x => RowAt W x.1 x.2) Tryz.underlying23 cells35 (by decide) (fun _ => rfl) (by rw [bytes35]; exact Nat.le_refl _) (fun n cs y h hf => by
    have hl : cs.length = 1 := by rcases DataW.trod_slice Tryz.underlying45 h with ⟨e, _⟩ | ⟨_, _, _, _, _, _, _, e, _⟩ <;> (subst e; rfl)
    match cs, hl with
    | [u], _ =>
      obtain ⟨r, hr⟩ := open_row h hf
      exact ⟨(u, r), rfl, hr⟩) h hf
  refine ⟨xs.map (·.2), xs.map (·.1), ⟨p, cap, by rw [List.length_map]; exact hv, by rw [List.length_map]; exact hc, by rw [List.length_map]; exact hm, fun hne => ?_⟩, by simp, fun j u r h1 h2 => ?_⟩
  · obtain ⟨b, o, hp, hQ, hj⟩ := hx (by intro e; subst e; simp at hne)
    refine ⟨b, o, hp, by rw [List.length_map]; exact hQ, fun j u hju => ?_⟩
    rw [List.getElem?_map] at hju
    cases hxj : xs[j]? with
    | none => rw [hxj] at hju; cases hju
    | some x => rw [hxj] at hju; cases hju; exact hj j x hxj
  · rw [List.getElem?_map] at h1 h2
    cases hxj : xs[j]? with
    | none => rw [hxj] at h1; cases h1
    | some x =>
      rw [hxj] at h1 h2
      cases h1; cases h2
      exact hg x (List.mem_of_getElem? hxj)
set_option maxRecDepth 100000 in
theorem open_tab {r : Reach} {b0 : Nat} {v : Value} {d : DataW H} {p : List MemPlace} (hv : Value.okWide Tryz.prog W r b0 25 v) (h : DataW.Trod enc Tryz.prog W base spare held 25 v d p) (hf : Fit 25 d) : ∃ cs rs, TabAt W v cs rs := by
  obtain ⟨cs, rfl, hsz⟩ := okWide_struct Tryz.underlying25 hv
  obtain ⟨fuel, hfu⟩ := h
  obtain ⟨y0, y1, n, hx, hl, h0, h1⟩ := trod_struct2 Tryz.underlying25 hfu
  rw [cells25] at hl
  obtain ⟨l⟩ := cs
  replace hl : l.length = 2 := hl
  replace h0 : DataW.trod enc Tryz.prog W base spare held n 22 ((l.drop 0).take (Tryz.prog.cellsOf 22)) = some y0 := h0
  replace h1 : DataW.trod enc Tryz.prog W base spare held n 23 ((l.drop 1).take (Tryz.prog.cellsOf 23)) = some y1 := h1
  rw [cells22] at h0
  rw [cells23] at h1
  cases hx
  match l, hl with
  | [c, q], _ =>
    have f0 : Fit 22 y0.1 := fun m hm => hf m (by simp only [DataW.weights, Tryz.underlying25]; exact DataW.weights_mem_each (j := 0) (t := 22) rfl rfl m hm)
    have f1 : Fit 23 y1.1 := fun m hm => hf m (by simp only [DataW.weights, Tryz.underlying25]; exact DataW.weights_mem_each (j := 1) (t := 23) rfl rfl m hm)
    obtain ⟨cl, hc⟩ := open_cols h0 f0
    obtain ⟨rs, hr⟩ := open_rows h1 f1
    exact ⟨cl, rs, c, q, rfl, hc, hr⟩
set_option maxRecDepth 100000 in
theorem fit_of {ts : List TypeId} {ds : List (DataW H)} (h : (DataW.weightsEach Tryz.prog ts ds).all (· ≤ reachBytes) = true) {j : Nat} {t : TypeId} {d : DataW H} (ht : ts[j]? = some t) (hd : ds[j]? = some d) : Fit t d := fun n hn => by
  exact of_decide_eq_true (List.all_eq_true.1 h n (DataW.weights_mem_each ht hd n hn))
end
end Go.Proofs.YtcidijjbcebcbaaGreat.TN
