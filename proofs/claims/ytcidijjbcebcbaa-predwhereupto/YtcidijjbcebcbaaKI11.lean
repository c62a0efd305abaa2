/-
  PredWhere, walked.
-/
import Derived.Test.YtcidijjbcebcbaaKH23
import Derived.Test.YtcidijjbcebcbaaKI10
import Derived.Deep.MidRow
namespace Go.Proofs.Ytcidijjbcebcbaa.PD
open Go.RowKit Go.Joins Go.Sort

theorem own_tnB {B e : Nat} {w : World} {v : Value} {xs : List Value} (h : Own TN.one 1 e B w v xs) (hl : xs.length ≤ 1000000) : TN.SlAt (fun b => B ≤ b) TN.one 1 w v xs := by
  rcases h.2 with ⟨hv, h0⟩ | ⟨g, cap, cur, hv, hg, hblk, hc, hm, q⟩
  · have hn : xs = [] := List.eq_nil_of_length_eq_zero h0
    subst hn
    rw [hv]; exact TN.SlAt.nil _ _ _ _
  · refine ⟨some ⟨g, 0, none⟩, cap, hv, ⟨hc, fun e => by cases e⟩, by unfold maxLen; omega, fun _ => ⟨g, 0, rfl, ⟨hg, by unfold TN.bsz; rw [if_neg (by decide)]; omega⟩, fun j x hx i u hi => ?_⟩⟩
    have := World.ownsRow.cells h (g := g) (by rw [hv]; rfl) (j * 1 + i) u (flat_get (enc := TN.one) (k := 1) (fun _ => rfl) xs j x hx i u hi)
    rw [Addr.add_lit, Nat.zero_add] at this
    rw [Nat.zero_add]
    exact this
theorem whp_tab {cs : List TN.Cl} {rs : List TN.Rw} {B : Nat} {w' : World} {cv rv : Value} {hs : List Value} (hc : TN.SlAt (fun b => B ≤ b ∧ b < w'.heap.size) TN.Cl.cells 2 w' cv cs) (hr : Rws B w' rv hs rs) (hl : rs.length ≤ 1000000) : TN.TabIn (fun b => B ≤ b) w' (.agg #[cv, rv]) cs rs :=
  ⟨cv, rv, rfl, hc.imp (fun b hb => hb.1), hs, own_tnB hr.own (by rw [hr.len]; exact hl), ⟨hr.len, fun j x r h1 h2 => (hr.row j x r h1 h2).imp (fun b hb => hb.1)⟩⟩
theorem own_head {B e : Nat} {w : World} {v : Value} {xs : List Value} (h : Own TN.one 1 e B w v xs) : ∃ p cap, v = .slice p xs.length cap ∧ ∀ (j : Nat) u, xs[j]? = some u → ∃ g o, p = some ⟨g, o, none⟩ ∧ v.ownBlock = some g ∧ B ≤ g ∧ g < w.heap.size ∧ w.cell? ⟨g, o + j, none⟩ = some u := by
  rcases h.2 with ⟨hv, h0⟩ | ⟨g, cap, cur, hv, hg, hblk, hc, hm, q⟩
  · have hn : xs = [] := List.eq_nil_of_length_eq_zero h0
    subst hn
    exact ⟨_, _, hv, fun j u hu => by simp at hu⟩
  · refine ⟨_, _, hv, fun j u hu => ⟨g, 0, rfl, by rw [hv]; rfl, hg, lt_of_block hblk, ?_⟩⟩
    have := World.ownsRow.cells h (g := g) (by rw [hv]; rfl) (j * 1 + 0) u (flat_get (enc := TN.one) (k := 1) (fun _ => rfl) xs j u hu 0 u rfl)
    rw [Addr.add_lit, Nat.zero_add] at this
    rw [Nat.zero_add]
    simpa using this
theorem Wq.open {B : Nat} {w : World} {v h : Value} {r : TN.Rw} (hh : Wq B w v h r) (hr : r ≠ []) : ∃ g o c cur, h = .slice (some ⟨g, o, none⟩) r.length c ∧ B ≤ g ∧ v.ownBlock ≠ some g ∧ w.heap[g]? = some (.cells cur 39 (0, 0)) ∧ o + r.length * 11 ≤ cur.size := by
  obtain ⟨g, c, cur, e, h1, h2, h3, h4⟩ := hh hr
  exact ⟨g, 0, c, cur, e, h1, h2, h3, by omega⟩
theorem Wr.set {B b o : Nat} {w : World} {v u : Value} {hs : List Value} {rs : List TN.Rw} (h : Wr B w v hs rs) : Wr B (w.setCell ⟨b, o, none⟩ u) v hs rs := ⟨fun j x r h1 h2 hr => by
  obtain ⟨g, c, cur, e, p1, p2, p3, p4⟩ := h.row j x r h1 h2 hr
  by_cases hb : g = b
  · subst hb
    exact ⟨g, c, _, e, p1, p2, block_set p3 o u, by rw [Array.size_setIfInBounds]; exact p4⟩
  · exact ⟨g, c, cur, e, p1, p2, (Kp.set (T := fun k => k = b) rfl u).blk p3 hb, p4⟩⟩
theorem Wr.sets {B b : Nat} {v : Value} {hs : List Value} {rs : List TN.Rw} : ∀ (vs : List Value) (o : Nat) (w : World), Wr B w v hs rs → Wr B (w.setCells b o vs) v hs rs
  | [], _, _, h => h
  | u :: r, o, w, h => by rw [World.setCells]; exact Wr.sets r (o + 1) _ h.set
theorem sets_kp {b : Nat} : ∀ (vs : List Value) (o : Nat) (w : World), Kp (fun k => k = b) w (w.setCells b o vs)
  | [], _, w => Kp.refl _ w
  | u :: r, o, w => by rw [World.setCells]; exact (Kp.set (T := fun k => k = b) rfl u).trans (sets_kp r (o + 1) _)
theorem wq_there {w : World} {g o n j t : Nat} {cur : Array Value} (h3 : w.heap[g]? = some (.cells cur t (0, 0))) (h4 : o + n * 11 ≤ cur.size) (hj : j < n) : w.there g (o + j * 11) 11 := fun i hi => by
  refine ⟨?_, block_frozen h3 _⟩
  rw [block_cell h3, Array.getElem?_eq_getElem (by omega)]
  rfl
theorem size_v11 : (Try.prog.info? 39).map (·.size) = some 11 := by kernel_rfl
def c77 : Array Value := #[.int .i64 77, .int .i64 0, .string ⟨#[]⟩, .int .i64 0, .int .i64 0, .int .i64 0, .int .i64 0, .int .i64 0, .int .i64 0, .int .i64 0, .int .i64 0]
theorem tab_kp {Q T : Nat → Prop} {w w' : World} {v : Value} {cs : List TN.Cl} {rs : List TN.Rw} (h : TN.TabIn Q w v cs rs) (hk : Kp T w w') (ht : ∀ b, Q b → ¬ T b) : TN.TabIn Q w' v cs rs := by
  obtain ⟨c, r, rfl, hc, hs, hr, hh⟩ := h
  exact ⟨_, _, rfl, tnSl_kp hc hk ht, hs, tnSl_kp hr hk ht, ⟨hh.1, fun j x r h1 h2 => tnSl_kp (hh.2 j x r h1 h2) hk ht⟩⟩
set_option maxRecDepth 100000 in
set_option maxHeartbeats 16000000 in
theorem predWhere_any {nv tv : Value} {i : Int} {qs : List Nx} {cs : List TN.Cl} {rs : List TN.Rw} {w : World} (hq : Qx (fun b => b < w.heap.size) w nv qs) (ht : TN.TabAt w tv cs rs) (hM : Mx w) (hz : ∀ r ∈ rs, Rsz r) (hvs : ∀ q ∈ qs, (St q.np.vs).size ≤ 1000000000000) : Calls Try.prog 4 #[tv, .agg #[nv], .int .i64 i] w fun e w' => e = .returned (.bool true) ∧ Below w.heap.size w w' := by
  obtain ⟨cv, rv, rfl, hcs, hs, hrs, hhs⟩ := ht
  obtain ⟨W, hW⟩ : ∃ W, W = (w.alloc (.cells #[cv, rv] 28)).alloc (.cells #[nv] 24) := ⟨_, rfl⟩
  have hb0 : Below w.heap.size w W := by rw [hW]; exact ((Below.refl _ _).alloc (Nat.le_refl _) _).alloc (by simp) _
  have k0 : W.heap[w.heap.size]? = some (.cells #[cv, rv] 28 (0, 0)) := by rw [hW]; exact block_on (alloc_block w _) ((Below.refl _ _).alloc (Nat.le_refl _) _)
  have k1 : W.heap[w.heap.size + 1]? = some (.cells #[nv] 24 (0, 0)) := by rw [hW]; have := alloc_block (w.alloc (.cells #[cv, rv] 28)) (.cells #[nv] 24); simpa using this
  have HB0 := hid hb0
  have KT0 := hid k0
  have KQ0 := hid k1
  have HQ0 := hid (hq.kp (T := fun _ => False) (Kp.of hb0) (fun _ _ => id))
  have HC0 := hid ((TN.SlAt.low hcs (by decide) TN.cl_len).imp (fun b hb => hb.2) |>.on hb0)
  have HR0 := hid ((TN.SlAt.low hrs (by decide) TN.one_len).imp (fun b hb => hb.2) |>.on hb0)
  have HH0 := hid (TN.HeadsIn.on (TN.heads_low hhs) hb0)
  have HM0 := hid (hM.on hb0)
  have HW := hid hW
  have HP := hid (mx_pos hM)
  have HZ := hid hz
  have HV := hid hvs
  obtain ⟨pc, cc, rfl, -⟩ := hcs
  obtain ⟨pr0, cr0, rfl, -⟩ := hrs
  obtain ⟨pn0, cn0, rfl, -, -⟩ := hq.sl.form
  clear hb0 k0 k1 hW hhs hq hM hz hvs
  go_enter Try.func4, Try.ntmps4
  go_upto_region 1 with fail
  rw [← HW.out]
  clear HW
  go_upto_region 2 with (first
    | (go_at_call 16; refine (shown5_any W HM0.out).mono ?_; rintro e w1 ⟨rfl, hb⟩; have HB1 := hid (TN.below_on HB0.out hb); have hk1 := block_on KQ0.out hb; have KQ1 := hid hk1; have KT1 := hid (block_on KT0.out hb); have y2 := block_cell hk1 0; have HQ1 := hid (HQ0.out.kp (T := fun _ => False) (Kp.of hb) (fun _ _ => id)); have HC1 := hid (HC0.out.on hb); have HR1 := hid (HR0.out.on hb); have HH1 := hid (HH0.out.on hb); have HM1 := hid (HM0.out.on hb); clear hb hk1))
  go_upto_region 3 with (first
    | (go_at_call 17; refine (few5_q HQ1.out).mono ?_; rintro e w2 ⟨nv2, rfl, hq2, hb⟩; have hql : (qs.take 100).length ≤ 1000 := (by rw [List.length_take]; omega); have hvs2 : ∀ q ∈ qs.take 100, (St q.np.vs).size ≤ 1000000000000 := (fun q hq => HV.out q (List.mem_of_mem_take hq)); generalize qs.take 100 = qs2 at *; have HQL := hid hql; have HV2 := hid hvs2; obtain ⟨pn, cn, rfl, -, -⟩ := hq2.sl.form; have HB2 := hid (TN.below_on HB1.out hb); have hk2 := block_on KQ1.out hb; have KQ2 := hid hk2; have KT2 := hid (block_on KT1.out hb); have y4 := block_cell hk2 0; have y5 := block_frozen hk2 0; have HQ2 := hid hq2; have HC2 := hid (HC1.out.on hb); have HR2 := hid (HR1.out.on hb); have HH2 := hid (HH1.out.on hb); have HM2 := hid (HM1.out.on hb); clear hb hk2 y2 hq2 hql hvs2))
  have hkq : Kp (fun b => b = w.heap.size + 1) w2 (w2.setCell ⟨w.heap.size + 1, 0, none⟩ (.slice pn qs2.length cn)) := Kp.set (T := fun b => b = w.heap.size + 1) rfl _
  have HKq : Hid ((w2.setCell ⟨w.heap.size + 1, 0, none⟩ (.slice pn qs2.length cn)).heap[w.heap.size + 1]? = some (.cells #[.slice pn qs2.length cn] 24 (0, 0))) := hid (block_set KQ2.out 0 (.slice pn qs2.length cn))
  have HKt := hid (hkq.blk KT2.out (by omega))
  have HQ3 := hid (HQ2.out.kp hkq (fun b hb e => by omega))
  have HB3 := hid (HB2.out.trans (hkq.below HB2.out.size (fun b e => by omega)))
  have HM3 := hid (mx_kp HM2.out hkq (by have := HP.out; omega))
  have hT3 : TN.TabIn (fun b => b < w.heap.size) (w2.setCell ⟨w.heap.size + 1, 0, none⟩ (.slice pn qs2.length cn)) (.agg #[.slice pc cs.length cc, .slice pr0 hs.length cr0]) cs rs := TN.TabIn.set (fun b hb => by omega) ⟨_, _, rfl, HC2.out, hs, HR2.out, HH2.out⟩
  clear hkq y4 y5 HQ2 HC2 HR2 HH2 HM2 KQ2 KT2
  generalize w2.setCell ⟨w.heap.size + 1, 0, none⟩ (.slice pn qs2.length cn) = w3 at *
  obtain ⟨c', r', e', hc3, hs3, hr3, hh3⟩ := hT3
  cases e'
  have HC3 := hid hc3
  have HR3 := hid hr3
  have HH3 := hid hh3
  have y0 := block_cell HKt.out
  clear hc3 hr3 hh3
  go_upto_region 4 with (first
    | (go_at_call 18; refine (TN.cut5_q HC3.out HR3.out HH3.out).mono ?_; rintro e w4 ⟨r2, rfl, hr2, hh2, hb⟩; have hrz : ∀ r ∈ rs.take 100, Rsz r := (fun r hr => HZ.out r (List.mem_of_mem_take hr)); have hr1 : (rs.take 100).length ≤ 100 := (by rw [List.length_take]; omega); generalize hs3.take 100 = hs4 at *; generalize rs.take 100 = rs4 at *; have HRz := hid hrz; have HLR := hid hr1; have HB4 := hid (TN.below_on HB3.out hb); have HKt4 := hid (block_on HKt.out hb); have HKq4 := hid (block_on HKq.out hb); have HQ4 := hid (HQ3.out.kp (T := fun _ => False) (Kp.of hb) (fun _ _ => id)); have HM4 := hid (HM3.out.on hb); have HC4 := hid (HC3.out.on hb); have HR4 := hid hr2; have HH4 := hid hh2; obtain ⟨pr, cr, rfl, -⟩ := hr2; have y4 := block_cell HKt4.out; have y5 := block_frozen HKt4.out; clear hb hh2 hr1 hrz y0))
  have KF := block_set (block_set HKt4.out 0 (.slice pc cs.length cc)) 1 (.slice pr hs4.length cr)
  have hkf : Kp (fun b => b = w.heap.size) w4 ((w4.setCell ⟨w.heap.size, 0, none⟩ (.slice pc cs.length cc)).setCell ⟨w.heap.size, 1, none⟩ (.slice pr hs4.length cr)) := (Kp.set (T := fun b => b = w.heap.size) rfl _).trans (Kp.set (T := fun b => b = w.heap.size) rfl _)
  have HKt5 : Hid (((w4.setCell ⟨w.heap.size, 0, none⟩ (.slice pc cs.length cc)).setCell ⟨w.heap.size, 1, none⟩ (.slice pr hs4.length cr)).heap[w.heap.size]? = some (.cells #[.slice pc cs.length cc, .slice pr hs4.length cr] 28 (0, 0))) := hid KF
  have HKq5 := hid (hkf.blk HKq4.out (by omega))
  have HQ5 := hid (HQ4.out.kp hkf (fun b hb e => by omega))
  have HB5 := hid (HB4.out.trans (hkf.below HB4.out.size (fun b e => by omega)))
  have HM5 := hid (mx_kp HM4.out hkf (by have := HP.out; omega))
  have hT5 : TN.TabIn (fun b => b < w.heap.size) ((w4.setCell ⟨w.heap.size, 0, none⟩ (.slice pc cs.length cc)).setCell ⟨w.heap.size, 1, none⟩ (.slice pr hs4.length cr)) (.agg #[.slice pc cs.length cc, .slice pr hs4.length cr]) cs rs4 := TN.TabIn.set (fun b hb => by omega) (TN.TabIn.set (fun b hb => by omega) ⟨_, _, rfl, HC4.out, hs4, HR4.out, HH4.out⟩)
  have HT5 := hid hT5
  clear KF hkf y4 y5 HC4 HR4 HH4 HQ4 HM4 hT5
  generalize (w4.setCell ⟨w.heap.size, 0, none⟩ (.slice pc cs.length cc)).setCell ⟨w.heap.size, 1, none⟩ (.slice pr hs4.length cr) = w5 at *
  have HWh := hid (show Calls Try.prog 21 #[.agg #[.slice pc cs.length cc, .slice pr hs4.length cr], .agg #[.slice pn qs2.length cn], .int .i64 i] w5 (WhW cs (rs4.filter (holdsX cs qs2 i)) w5) by
    obtain ⟨c', r', e', hc, hs', hr, hh⟩ := HT5.out
    cases e'
    exact where_own (i := i) (qx_on HQ5.out HB5.out.size (Below.refl _ _)) HQL.out (hc.imp (fun _ _ => trivial)) (hr.imp (fun _ _ => trivial)) ⟨hh.1, fun j x r h1 h2 => (hh.2 j x r h1 h2).imp (fun _ _ => trivial)⟩ HM5.out (fun _ _ _ r hr => HRz.out r hr) (by have := HLR.out; omega))
  have HRw := hid (fun W (hT : TN.TabIn (fun b => b < w.heap.size) W (.agg #[.slice pc cs.length cc, .slice pr hs4.length cr]) cs rs4) (hQ : Qx (fun b => b < w.heap.size) W (.slice pn qs2.length cn) qs2) (hB : Below w.heap.size w W) => show Calls Try.prog 22 #[.agg #[.slice pc cs.length cc, .slice pr hs4.length cr], .agg #[.slice pn qs2.length cn], .int .i64 i] W (WhP' cs (rs4.filter (holdsX cs qs2 i)) W) by
    obtain ⟨c', r', e', hc, hs', hr, hh⟩ := hT
    cases e'
    exact rwhere15_any (i := i) (qx_on hQ hB.size (Below.refl _ _)) HQL.out (hc.imp (fun _ _ => trivial)) (hr.imp (fun _ _ => trivial)) ⟨hh.1, fun j x r h1 h2 => (hh.2 j x r h1 h2).imp (fun _ _ => trivial)⟩ (fun _ _ _ r hr => HRz.out r hr) HV2.out (by have := HLR.out; omega))
  have HF : Hid ((rs4.filter (holdsX cs qs2 i)).length ≤ 1000000) := hid (Nat.le_trans (List.length_filter_le _ _) (by have := HLR.out; omega))
  generalize rs4.filter (holdsX cs qs2 i) = R at *
  have z0 := block_cell HKt5.out
  have z1 := block_cell HKq5.out 0
  go_upto_region 5 with (first
    | (go_at_call 21; refine HWh.out.mono ?_; rintro e w6 ⟨cv6, rv6, hs6, rfl, hc6, hr6, hw6, hb⟩; have HR6 := hid hr6; have HW6 := hid hw6; have HT6 := hid (whp_tab hc6 hr6 HF.out); have HB6 := hid hb; obtain ⟨pc6, cc6, rfl, -⟩ := id hc6; obtain ⟨pr6, cr6, hpr6, hhd⟩ := own_head hr6.own; subst hpr6; have HHd := hid hhd; have HLen := hid hr6.len; clear hc6 hr6 hw6 hb hhd z0 z1))
  have k6 := alloc_block w6 (.cells #[.slice pc6 cs.length cc6, .slice pr6 hs6.length cr6] 28)
  have ha6 : Below w6.heap.size w6 (w6.alloc (.cells #[.slice pc6 cs.length cc6, .slice pr6 hs6.length cr6] 28)) := (Below.refl _ _).alloc (Nat.le_refl _) _
  have HB7 := hid (TN.below_on HB6.out ha6)
  have HA6 := hid ha6
  have K7 := hid k6
  have HS7 : Hid (w6.heap.size < (w6.alloc (.cells #[.slice pc6 cs.length cc6, .slice pr6 hs6.length cr6] 28)).heap.size) := hid (lt_of_block k6)
  clear k6 ha6
  generalize w6.alloc (.cells #[.slice pc6 cs.length cc6, .slice pr6 hs6.length cr6] 28) = w7 at *
  have z0 := block_cell (block_on HKt5.out HB7.out)
  have z1 := block_cell (block_on HKq5.out HB7.out) 0
  have HRw7 := hid (HRw.out w7 (HT5.out.on HB7.out) (HQ5.out.kp (T := fun _ => False) (Kp.of HB7.out) (fun _ _ => id)) (HB5.out.trans (HB7.out.mono HB5.out.size)))
  go_upto_region 6 with (first
    | (go_at_call 22; refine HRw7.out.mono ?_; rintro e w8 ⟨cv8, rv8, hs8, rfl, hc8, hr8, hb⟩; have HT8 := hid (whp_tab hc8 hr8 HF.out); have HB8 := hid hb; obtain ⟨pc8, cc8, rfl, -⟩ := id hc8; obtain ⟨pr8, cr8, hpr8, -⟩ := own_head hr8.own; subst hpr8; clear hc8 hr8 hb z0 z1))
  have k8 := alloc_block w8 (.cells #[.slice pc8 cs.length cc8, .slice pr8 hs8.length cr8] 28)
  have ha8 : Below w8.heap.size w8 (w8.alloc (.cells #[.slice pc8 cs.length cc8, .slice pr8 hs8.length cr8] 28)) := (Below.refl _ _).alloc (Nat.le_refl _) _
  have HB9 := hid (TN.below_on HB8.out ha8)
  have HT9 := hid (HT8.out.on ha8)
  have K9 := hid k8
  have HS9 : Hid (w8.heap.size < (w8.alloc (.cells #[.slice pc8 cs.length cc8, .slice pr8 hs8.length cr8] 28)).heap.size) := hid (lt_of_block k8)
  have HS8 := hid HB8.out.size
  clear k8 ha8 HT8
  generalize w8.alloc (.cells #[.slice pc8 cs.length cc8, .slice pr8 hs8.length cr8] 28) = w9 at *
  have HA9 := hid (TN.below_on HA6.out HB9.out)
  have HT69 := hid (HT6.out.on HA9.out)
  have HSm := hid (TN.rsame_any (HT69.out.imp (fun _ _ => trivial)) (HT9.out.imp (fun _ _ => trivial)))
  have z2 := block_cell (block_on K7.out HB9.out)
  have z3 := block_cell K9.out
  go_upto_region 7 with (first
    | (go_at_call 23; refine HSm.out.mono ?_; rintro e w10 ⟨rfl, hb⟩; rw [decide_eq_true ⟨rfl, rfl⟩]; have HB10 := hid hb; clear hb z2 z3))
  have HA10 := hid (TN.below_on HA9.out HB10.out)
  have HB710 := hid (TN.below_on HB9.out HB10.out)
  have HB510 := hid (TN.below_on HB7.out HB710.out)
  have HR10 := hid (HR6.out.on HA10.out)
  have HW10 := hid (HW6.out.on HA10.out)
  have K710 := hid (block_on K7.out HB710.out)
  have K910 := hid (block_on K9.out HB10.out)
  have HT910 := hid (HT9.out.on HB10.out)
  obtain ⟨m, hm⟩ : ∃ m, hs6.length = m := ⟨_, rfl⟩
  have HMm := hid hm
  have HmR : Hid (R.length = m) := hid (by rw [← HLen.out]; exact hm)
  rw [hm] at HR10 HW10 K710 HHd
  have mI : (m : Int) ≤ 1000000 := by have := HF.out; have := HmR.out; omega
  have HG : Hid (∀ (j : Nat) h r, hs6[j]? = some h → R[j]? = some r → r ≠ [] → ∀ g, h.ownBlock = some g → g < w6.heap.size) := hid (fun j h r h1 h2 hr g hg => by
    obtain ⟨g', c, cur, e, -, -, h3, -⟩ := HW6.out.row j h r h1 h2 hr
    rw [e] at hg
    cases hg
    exact lt_of_block h3)
  clear hm HR6 HW6 HT6 HT69 HSm HRw7 HWh
  go_upto_region 8 with fail
  go_loopw [11] (fun x wr => ∃ k : Nat, k ≤ m ∧ x = .int .i64 k ∧ Hid (Kp (fun b => w5.heap.size ≤ b ∧ b < w6.heap.size ∧ (Value.slice pr6 m cr6).ownBlock ≠ some b) w10 wr) ∧ Hid (Wr w5.heap.size wr (.slice pr6 m cr6) hs6 R)) (fun x _ => m - (intOf x).toNat)
  case atStart => exact ⟨0, by omega, rfl, Kp.refl _ _, HW10.out⟩
  case round =>
    obtain ⟨k, hk, rfl, HK, HWr⟩ := hrel
    have KX := hid (HK.out.blk K710.out (fun h => by have := h.2.1; omega))
    have y1 := block_cell KX.out
    by_cases hkm : k < m
    · have kI : (k : Int) < m := by omega
      have k0 : (0 : Int) ≤ k := by omega
      obtain ⟨h, hh⟩ : ∃ h, hs6[k]? = some h := ⟨_, List.getElem?_eq_getElem (by have := HMm.out; omega)⟩
      obtain ⟨r, hrr⟩ : ∃ r, R[k]? = some r := ⟨_, List.getElem?_eq_getElem (by have := HmR.out; omega)⟩
      obtain ⟨gh, oh, rfl, hown, hgB, hgl, hcell⟩ := HHd.out k h hh
      have hcell10 := (HA10.out.cell hgl).trans hcell
      obtain ⟨ph, ch, rfl, -⟩ := HR10.out.row k h r hh hrr
      have HH := hid hh
      have HRr := hid hrr
      have HOw := hid hown
      have HCl := hid hcell10
      obtain ⟨n, hn⟩ : ∃ n, r.length = n := ⟨_, rfl⟩
      have HN := hid hn
      have nI : (n : Int) ≤ 140737488355328 := by
        have hb := TN.SlAt.bound (HR10.out.row k _ r hh hrr)
        unfold TN.bsz at hb
        rw [if_pos rfl] at hb
        omega
      rw [hn] at HCl HH
      clear hh hrr hown hcell hcell10 hn
      go_upto_region 11 with fail
      clear y1
      go_loopw [12] (fun y wq => ∃ j : Nat, j ≤ n ∧ y = .int .i64 j ∧ Hid (Kp (fun b => w5.heap.size ≤ b ∧ b < w6.heap.size ∧ (Value.slice (some ⟨gh, oh, none⟩) m cr6).ownBlock ≠ some b) w10 wq) ∧ Hid (Wr w5.heap.size wq (.slice (some ⟨gh, oh, none⟩) m cr6) hs6 R)) (fun y _ => n - (intOf y).toNat)
      case atStart => exact ⟨0, by omega, rfl, HK.out, HWr.out⟩
      case round =>
        obtain ⟨j, hj, rfl, HKj, HWj⟩ := hrel
        have KXj := hid (HKj.out.blk K710.out (fun h => by have := h.2.1; omega))
        have y1 := block_cell KXj.out
        have yh := HKj.out.cell HCl.out (fun h => h.2.2 HOw.out)
        by_cases hjn : j < n
        · have jI : (j : Int) < n := by omega
          have j0 : (0 : Int) ≤ j := by omega
          obtain ⟨g, o, c, cur, e, hg1, hg2, hg3, hg4⟩ := (HWj.out.row k _ r HH.out HRr.out).open (by intro e; have := HN.out; rw [e] at this; simp at this; omega)
          injection e with e1 e2 e3
          subst e1 e3
          clear e2
          rw [show r.length = n from HN.out] at hg4
          have x1 := block_cell hg3
          have x2 := block_frozen hg3
          have HG3 := hid hg3
          have HTh := hid (wq_there hg3 hg4 hjn)
          have hgl := HG.out k _ r HH.out HRr.out (by intro e; have := HN.out; rw [e] at this; simp at this; omega) g rfl
          clear x1
          obtain ⟨vv0, c0⟩ := Option.isSome_iff_exists.1 (HTh.out 0 (by decide)).1
          obtain ⟨vv1, c1⟩ := Option.isSome_iff_exists.1 (HTh.out 1 (by decide)).1
          obtain ⟨vv2, c2⟩ := Option.isSome_iff_exists.1 (HTh.out 2 (by decide)).1
          obtain ⟨vv3, c3⟩ := Option.isSome_iff_exists.1 (HTh.out 3 (by decide)).1
          obtain ⟨vv4, c4⟩ := Option.isSome_iff_exists.1 (HTh.out 4 (by decide)).1
          obtain ⟨vv5, c5⟩ := Option.isSome_iff_exists.1 (HTh.out 5 (by decide)).1
          obtain ⟨vv6, c6⟩ := Option.isSome_iff_exists.1 (HTh.out 6 (by decide)).1
          obtain ⟨vv7, c7⟩ := Option.isSome_iff_exists.1 (HTh.out 7 (by decide)).1
          obtain ⟨vv8, c8⟩ := Option.isSome_iff_exists.1 (HTh.out 8 (by decide)).1
          obtain ⟨vv9, c9⟩ := Option.isSome_iff_exists.1 (HTh.out 9 (by decide)).1
          obtain ⟨vv10, c10⟩ := Option.isSome_iff_exists.1 (HTh.out 10 (by decide)).1
          rw [Nat.add_zero] at c0
          go_wp2_with fail
          go_roundw
          case rel => exact ⟨j + 1, by omega, by go_num, HKj.out.trans' (sets_kp c77.toList (o + j * 11) _) (fun b hb e => by subst e; exact ⟨hg1, hgl, hg2⟩), Wr.sets c77.toList (o + j * 11) _ HWj.out⟩
          case measure => simp [intOf]; omega
        · have jI : ¬ (j : Int) < n := by omega
          go_wp2_with fail
          go_roundw
          case rel => exact ⟨k + 1, by omega, by go_num, HKj.out, HWj.out⟩
          case measure => simp [intOf]; omega
    · have kI : ¬ (k : Int) < m := by omega
      have hs510 := HB510.out.size
      have hs67 := HS7.out
      have hs78 := HS8.out
      have HTr := hid (tab_kp (HT5.out.on HB510.out) HK.out (fun b hb h => by have := h.1; have := HB5.out.size; omega))
      have HQr := hid ((HQ5.out.kp (T := fun _ => False) (Kp.of HB510.out) (fun _ _ => id)).kp HK.out (fun b hb h => by have := h.1; have := HB5.out.size; omega))
      have HTy := hid (tab_kp HT910.out HK.out (fun b hb h => by have := h.2.1; omega))
      have HBr : Hid (Below w.heap.size w wr) := hid ((HB5.out.trans (HB510.out.mono HB5.out.size)).trans (HK.out.below (by have := HB5.out.size; omega) (fun b h => by have := h.1; have := HB5.out.size; omega)))
      have KTr := hid (HK.out.blk (block_on HKt5.out HB510.out) (fun h => by have := h.1; have := lt_of_block HKt5.out; omega))
      have KQr := hid (HK.out.blk (block_on HKq5.out HB510.out) (fun h => by have := h.1; have := lt_of_block HKq5.out; omega))
      have K9r := hid (HK.out.blk K910.out (fun h => by have := h.2.1; omega))
      have HRr := hid (fun W (hb : Below wr.heap.size wr W) => HRw.out W (HTr.out.on hb) (HQr.out.kp (T := fun _ => False) (Kp.of hb) (fun _ _ => id)) (HBr.out.trans (hb.mono HBr.out.size)))
      have HSr := hid (fun W (hb : Below wr.heap.size wr W) v7 (h7 : TN.TabAt W v7 cs R) => ((TN.rsame_any h7 ((HTy.out.imp (fun _ _ => trivial)).on hb)).mono (fun e w' h => ⟨by rw [h.1, decide_eq_true ⟨rfl, rfl⟩], h.2⟩) : Calls Try.prog 23 #[v7, _] W fun e w' => e = .returned (.bool true) ∧ Below W.heap.size W w'))
      clear HRw HT5 HQ5 HT910 HWr
      go_upto_region 14 with fail
      clear y1
      go_cut [13] from 55 to 60 (fun x wx => x = .bool true ∧ Hid (Below wr.heap.size wr wx))
      case first =>
        have hd : Below wr.heap.size wr wr.drew := (Below.refl _ _).drew
        have HD := hid hd
        have z0 := block_cell (block_on KTr.out hd)
        have z1 := block_cell (block_on KQr.out hd) 0
        have z2 := block_cell (block_on K9r.out hd)
        clear hd
        go_region_with (first
          | (go_at_call 22; refine (HRr.out _ HD.out).mono ?_; rintro e wA ⟨cvA, rvA, hsA, rfl, hcA, hrA, hb⟩; have HTA := hid (TN.TabIn.imp (whp_tab hcA hrA HF.out) (fun _ _ => trivial)); obtain ⟨pcA, ccA, rfl, -⟩ := id hcA; obtain ⟨prA, crA, hprA, -⟩ := own_head hrA.own; subst hprA; have HBA := hid (TN.below_on HD.out hb); have z3 := block_cell (block_on K9r.out HBA.out); clear hb hcA hrA z0 z1 z2)
          | (go_at_call 23; refine (HSr.out _ HBA.out _ HTA.out).mono ?_; rintro e wB ⟨rfl, hb⟩; have HBB := hid (TN.below_on HBA.out hb); clear hb z3))
        all_goals
          go_wp2_with fail
          go_meet
          case rel => exact ⟨rfl, HBB.out⟩
      case rest =>
        obtain ⟨rfl, HBc⟩ := hcut
        go_wp2_with fail
        all_goals
          go_ret
          exact ⟨rfl, HBr.out.trans (HBc.out.mono HBr.out.size)⟩
end Go.Proofs.Ytcidijjbcebcbaa.PD
