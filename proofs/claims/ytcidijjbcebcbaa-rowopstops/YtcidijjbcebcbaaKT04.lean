/-
  RowopsTops, walked.
  Of any table the rows come first that the document says, or it is refused: the Go function catchmentlaw16.RowopsTops returns true for every input, and changes none. No condition.
-/
import Derived.Test.YtcidijjbcebcbaaRows
import Derived.Test.YtcidijjbcebcbaaKW15
import Derived.Test.YtcidijjbcebcbaaKW18
import Derived.Test.YtcidijjbcebcbaaKW20
import Derived.Test.YtcidijjbcebcbaaKW22
import Derived.Test.YtcidijjbcebcbaaKT03
namespace Go.Proofs.Ytcidijjbcebcbaa.RO
open Go.RowKit Go.Joins Go.Sort

set_option maxRecDepth 100000 in
set_option maxHeartbeats 16000000 in
theorem tops_any {tv : Value} {cs : List TN.Cl} {rs : List TN.Rw} {nn : Int} {nm : ByteArray} {w : World} (ht : TN.TabAt w tv cs rs) : Calls Try.prog 8 #[tv, .int .i64 nn, .string nm] w fun e w' => e = .returned (.bool true) ∧ Below w.heap.size w w' := by
  obtain ⟨cv, rv, rfl, hcs, hs, hrs, hhs⟩ := ht
  have hb0 : Below w.heap.size w (w.alloc (.cells #[cv, rv] 28)) := (Below.refl _ _).alloc (Nat.le_refl _) _
  have hK0 := alloc_block w (.cells #[cv, rv] 28)
  have HB0 := hid hb0
  have HK0 := hid hK0
  have HC0 := hid ((TN.SlAt.low hcs (by decide) TN.cl_len).imp (fun b hb => hb.2) |>.on hb0)
  have HR0 := hid ((TN.SlAt.low hrs (by decide) TN.one_len).imp (fun b hb => hb.2) |>.on hb0)
  have HH0 := hid (TN.HeadsIn.on (TN.heads_low hhs) hb0)
  have HSh := hid shown6_any
  obtain ⟨pc, cc, rfl, -⟩ := hcs
  obtain ⟨pr0, cr0, rfl, -⟩ := hrs
  clear hb0 hK0 hhs
  go_enter Try.func8, Try.ntmps8
  go_upto_region 1 with fail
  generalize w.alloc (.cells #[.slice pc cs.length cc, .slice pr0 hs.length cr0] 28) = w0 at *
  have y0 : w0.cell? ⟨w.heap.size, 0, none⟩ = some (.slice pc cs.length cc) := block_cell HK0.out 0
  have y1 : w0.cell? ⟨w.heap.size, 1, none⟩ = some (.slice pr0 hs.length cr0) := block_cell HK0.out 1
  go_upto_region 2 with (first
    | (go_at_call 28; refine (HSh.out _).mono ?_; rintro e w1 ⟨rfl, hb⟩; have HB1 := hid (HB0.out.trans (hb.mono HB0.out.size)); have hk1 := block_on HK0.out hb; have HK1 := hid hk1; have y2 := block_cell hk1 0; have y3 := block_cell hk1 1; have HC1 := hid (HC0.out.on hb); have HR1 := hid (HR0.out.on hb); have HH1 := hid (HH0.out.on hb); clear hb hk1 y0 y1))
  go_upto_region 3 with (first
    | (go_at_call 29; refine (TN.cut6_q HC1.out HR1.out HH1.out).mono ?_; rintro e w2 ⟨r2, rfl, hr2, hh2, hb⟩; have hr1 : (rs.take 100).length ≤ 100 := (by rw [List.length_take]; omega); generalize hs.take 100 = hs3 at *; generalize rs.take 100 = rs3 at *; have HLR := hid hr1; obtain ⟨n, hn⟩ : ∃ n, hs3.length = n := ⟨_, rfl⟩; have HN := hid hn; have HB2 := hid (HB1.out.trans (hb.mono HB1.out.size)); have hk2 := block_on HK1.out hb; have HK2 := hid hk2; have y4 := block_cell hk2 0; have y5 := block_cell hk2 1; have y6 := block_frozen hk2 0; have y7 := block_frozen (block_set hk2 0 (.slice pc cs.length cc)) 1; have y8 := block_cell (block_set hk2 0 (.slice pc cs.length cc)) 1; have HC2 := hid (HC1.out.on hb); have HR2 := hid hr2; have HH2 := hid hh2; obtain ⟨pr, cr, rfl, -⟩ := hr2; rw [hn] at HR2 ⊢; clear hb hk2 y2 y3 hh2 hr1 hn))
  have hkf : Kp (fun b => b = w.heap.size) w2 ((w2.setCell ⟨w.heap.size, 0, none⟩ (.slice pc cs.length cc)).setCell ⟨w.heap.size, 1, none⟩ (.slice pr n cr)) := (Kp.set (T := fun b => b = w.heap.size) rfl _).trans (Kp.set (T := fun b => b = w.heap.size) rfl _)
  have KF := block_set (block_set HK2.out 0 (.slice pc cs.length cc)) 1 (.slice pr n cr)
  have hwz : w.heap.size ≤ w2.heap.size := HB2.out.size
  have HT3 : Hid (TN.TabAt ((w2.setCell ⟨w.heap.size, 0, none⟩ (.slice pc cs.length cc)).setCell ⟨w.heap.size, 1, none⟩ (.slice pr n cr)) (.agg #[.slice pc cs.length cc, .slice pr n cr]) cs rs3) := hid ((TN.TabIn.set (Q := fun b => b < w.heap.size) (fun b hb => by omega) (TN.TabIn.set (fun b hb => by omega) ⟨_, _, rfl, HC2.out, hs3, HR2.out, HH2.out⟩)).imp (fun _ _ => trivial))
  have HB3 := hid (HB2.out.trans (hkf.below HB2.out.size (fun b e => by omega)))
  clear y4 y5 y6 y7 y8 hkf HC2 HR2 HH2 HK2 hwz
  have HW3 := hid KF
  clear KF
  generalize (w2.setCell ⟨w.heap.size, 0, none⟩ (.slice pc cs.length cc)).setCell ⟨w.heap.size, 1, none⟩ (.slice pr n cr) = w3 at *
  have hrl : rs3.length ≤ 1000000 := by have := HLR.out; omega
  have HAl := hid (fun W (hb : Below w3.heap.size w3 W) => top_any (n := nn) (nm := nm) (HT3.out.on hb) hrl)
  have HRa := hid (fun W (hb : Below w3.heap.size w3 W) => rtop_any (n := nn) (nm := nm) (HT3.out.on hb) hrl)
  have y4 : w3.cell? ⟨w.heap.size, 0, none⟩ = some (.slice pc cs.length cc) := block_cell HW3.out 0
  have y5 : w3.cell? ⟨w.heap.size, 1, none⟩ = some (.slice pr n cr) := block_cell HW3.out 1
  clear hrl
  generalize hR : topR (TN.findC cs nm).toNat nn.toNat rs3 = R at *
  generalize hok : okE cs rs3 (topB cs nn nm) = ok at *
  generalize her : runE cs rs3 (topB cs nn nm) = er at *
  clear hR hok her
  go_upto_region 4 with (first
    | (go_at_call 30; go_loud (refine (HAl.out _ (Below.refl _ _)).mono ?_; rintro e w6 ⟨v6, rfl, ht6, hb⟩; have HT6 : Hid (TN.TabAt w6 v6 (if ok then cs else []) (if ok then R else [])) := hid (TN.TabIn.imp (show TN.TabIn (fun k => w3.heap.size ≤ k) w6 v6 _ _ from ht6) (fun _ _ => trivial)); obtain ⟨pc6, nc6, cc6, pr6, nr6, cr6, rfl⟩ := tabE_form ht6; have HB6 := hid hb; clear hb ht6 y4 y5)))
  have k6 := alloc_block w6 (.cells #[.slice pc6 nc6 cc6, .slice pr6 nr6 cr6] 28)
  have ha6 : Below w6.heap.size w6 (w6.alloc (.cells #[.slice pc6 nc6 cc6, .slice pr6 nr6 cr6] 28)) := (Below.refl _ _).alloc (Nat.le_refl _) _
  have HB7 := hid (TN.below_on HB6.out ha6)
  have HT7 := hid (HT6.out.on ha6)
  have K7 := hid k6
  have HW7 := hid (block_on HW3.out HB7.out)
  clear HT6 k6 ha6
  generalize w6.alloc (.cells #[.slice pc6 nc6 cc6, .slice pr6 nr6 cr6] 28) = w7 at *
  have z0 : w7.cell? ⟨w.heap.size, 0, none⟩ = some (.slice pc cs.length cc) := block_cell HW7.out 0
  have z1 : w7.cell? ⟨w.heap.size, 1, none⟩ = some (.slice pr n cr) := block_cell HW7.out 1
  go_upto_region 5 with (first
    | (go_at_call 31; refine (HRa.out _ HB7.out).mono ?_; rintro e w8 ⟨v8, rfl, hf8, ht8, hb⟩; have HT8 : Hid (TN.TabAt w8 v8 (if ok then cs else []) (if ok then R else [])) := hid ht8; obtain ⟨pc8, nc8, cc8, pr8, nr8, cr8, rfl⟩ := hf8; have HB8 := hid (TN.below_on HB7.out hb); have K78 := hid (block_on K7.out hb); have HT78 := hid (HT7.out.on hb); clear hb ht8 z0 z1))
  have k8 := alloc_block w8 (.cells #[.slice pc8 nc8 cc8, .slice pr8 nr8 cr8] 28)
  have ha8 : Below w8.heap.size w8 (w8.alloc (.cells #[.slice pc8 nc8 cc8, .slice pr8 nr8 cr8] 28)) := (Below.refl _ _).alloc (Nat.le_refl _) _
  have HB9 := hid (TN.below_on HB8.out ha8)
  have HT9 := hid (HT8.out.on ha8)
  have HT79 := hid (HT78.out.on ha8)
  have K79 := hid (block_on K78.out ha8)
  have K9 := hid k8
  clear HT8 HT78 k8 ha8 K78 K7 HT7 HW7
  generalize w8.alloc (.cells #[.slice pc8 nc8 cc8, .slice pr8 nr8 cr8] 28) = w9 at *
  have z2 := block_cell K79.out
  have z3 := block_cell K9.out
  go_wp2_with (first
    | (go_at_call 23; refine (TN.rsame_any HT79.out HT9.out).mono ?_; rintro e w10 ⟨rfl, hb⟩; rw [decide_eq_true ⟨rfl, rfl⟩]; have HB10 := hid (TN.below_on HB9.out hb); clear hb z2 z3))
  have d1 : (er == er) = true := by simp
  all_goals
    go_ret
    exact ⟨by simp, HB3.out.trans (HB10.out.mono HB3.out.size)⟩
end Go.Proofs.Ytcidijjbcebcbaa.RO
namespace Go.Proofs.Ytcidijjbcebcbaa.RO
open Go.ChangeShapes Go.WideShapes Go.ChangeAt Go.WideMaps Go.WideElems Go.RowKit Go.Joins
open Go.ChangeMaps (open_string shut_string)

set_option maxRecDepth 100000 in
theorem rowopsTops_lifted (os : Os) (started : os.Started) (H : Type) (enc : TypeId × Value → H) :
    ReturnsInHanded {} Try.checked os 8 .any (Rows.rowopsTopsSpec.pre6 enc Try.prog Try.f8 Rows.rowopsTopsRow.domain false) (Rows.rowopsTopsSpec.post enc Try.prog Try.f8 false true false false) := by
  refine returnsInHanded_of_change_sized (C := Try.checked) TN.own started (by kernel_rfl) Try.func8
    (ChangeSpec.witness6 (enc := enc) (C := Try.checked) false ⟨#[], #[.agg #[.slice none 0 0, .slice none 0 0], .int .i64 0, .string ⟨#[]⟩], []⟩ 8 (by kernel_rfl) (by kernel_rfl) (by kernel_rfl) (by kernel_rfl)) ?_
  intro W base args ds gs before hval0 hW _ hsz _
  have hval : ∀ (j : Nat) t v, Try.f8.params[j]? = some t → args[j]? = some v → Value.okWide Try.prog W .any base t v := hval0
  have hW' := hW
  obtain ⟨p, q, hA0, hV, rfl, _, _⟩ := hW
  have hA : DataW.TrodAll enc Try.prog W 0 (fun _ => true) true Try.f8.params.toList args.toList ds p := hA0
  rw [Try.params8] at hA hval
  obtain ⟨v0, vs0, d0, ds0, p0, q0, hargs, rfl, rfl, h0, r0⟩ := trodAll_cons hA
  obtain ⟨v1, vs1, d1, ds1, p1, q1, rfl, rfl, rfl, h1, r1⟩ := trodAll_cons r0
  obtain ⟨v2, vs2, d2, ds2, p2, q2, rfl, rfl, rfl, h2, r2⟩ := trodAll_cons r1
  obtain ⟨rfl, rfl, rfl⟩ := trodAll_nil r2
  obtain rfl : args = #[v0, v1, v2] := by cases args; simp_all
  obtain ⟨rfl, rfl⟩ := trodVars_none hV
  have k0 := h0
  have lt0 : ∀ x ∈ p0, x.block < W.heap.size := by obtain ⟨m, hm⟩ := k0; exact DataW.trod_lt m _ _ _ hm
  have f0 : TN.Fit 28 d0 := TN.fit_of hsz (j := 0) (by rw [show Try.checked.prog = Try.prog from rfl, Try.params8]; rfl) rfl
  obtain ⟨cs0, rs0, x0⟩ := TN.open_tab (hval 0 28 v0 rfl rfl) h0 f0
  obtain ⟨i1, rfl, rfl, rfl, x1⟩ := open_int Try.underlying3 (hval 1 3 v1 rfl rfl) h1
  have o1 : TN.Ok64 i1 := TN.ok64_of x1
  obtain ⟨s2, rfl, rfl, rfl, x2⟩ := open_string Try.underlying9 (hval 2 9 v2 rfl rfl) h2
  clear hA0 hval0
  refine (tops_any x0).mono fun e W' ⟨he, bel⟩ => ?_
  subst he
  exact ⟨_, rfl, _, _, _, [], _, [], hW', trodAll_mk1 (shut_bool Try.underlying4 _), (trodAll_cons_mk (Below.trod TN.laidOut (by kernel_rfl) (of_decide_eq_true (by kernel_rfl)) k0 bel lt0) (trodAll_cons_mk (shut_int Try.underlying3 x1) (trodAll_cons_mk (shut_string Try.underlying9 x2) trodAll_mk0))), rfl, bel.frame _, fun h => by cases h⟩
end Go.Proofs.Ytcidijjbcebcbaa.RO
namespace Go.Proofs.Ytcidijjbcebcbaa
open Go.ChangeShapes Go.WideShapes Go.ChangeAt Go.WideMaps Go.WideElems Go.RowKit Go.Joins

theorem rowopsTops_said : Rows.RowopsTopsSaid :=
  OpenClaim.holds_of_wide 8 Try.f8 rfl rfl rfl rfl rfl rfl rfl ⟨rfl, rfl, rfl, rfl, rfl⟩ rfl rfl rfl rfl rfl (by kernel_rfl) Try.func8 (by kernel_rfl)
    (of_decide_eq_true (by kernel_rfl)) (by unfold Func.isWrapper; first | (rw [if_pos (by decide +kernel)]; kernel_rfl) | (rw [if_neg (by decide +kernel)]; exact ⟨rfl, rfl⟩))
    (fun os started H enc _ => RO.rowopsTops_lifted os started H enc)

#print axioms rowopsTops_said
end Go.Proofs.Ytcidijjbcebcbaa
