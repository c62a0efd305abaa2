/-
  PredWhere, walked.
  PredSides, walked.
  PredSides, walked.
  A named variable's block, read out of the world's shape; the wrap that hands the shape on.
  The wrap that hands the world's shape on, where the specification bears a condition of its own.
-/
import Derived.Test.YtjekpclbedbaoaaKS02
import Derived.Test.YtjekpclbedbaoaaKS16
import Derived.Test.YtjekpclbedbaoaaKS20
import Derived.Test.YtjekpclbedbaoaaKS24
import Derived.Test.YtjekpclbedbaoaaKS32
import Derived.Test.YtjekpclbedbaoaaKS33
import Derived.Deep.MidRow
import Derived.Deep.RegionHeldLaw
import Derived.BigQuiet
import Derived.SizedLaws
import Derived.ShapedOpen
import Derived.Deep.CondSized
namespace Go.Proofs.Ytjekpclbedbaoaa.PD
open Go.RowKit Go.Joins Go.Sort

theorem own_tnB {B e : Nat} {w : World} {v : Value} {xs : List Value} (h : Own TN.one 1 e B w v xs) (hl : xs.length ≤ 1000000) : TN.SlAt (fun b => B ≤ b) TN.one 1 w v xs := by
  rcases h.2 with ⟨hv, h0⟩ | ⟨g, cap, cur, hv, hg, hblk, hc, hm, q⟩
  · have hn : xs = [] := List.eq_nil_of_length_eq_zero h0
    subst hn
    rw [hv]; exact TN.SlAt.nil _ _ _ _
  · refine ⟨some ⟨g, 0, none⟩, cap, hv, ⟨hc, fun e => by cases e⟩, by unfold maxLen; omega, fun _ => ⟨g, 0, rfl, ⟨hg, by unfold TN.bsz; rw [if_neg (by decide)]; omega⟩, fun j x hx i u hi => ?_⟩⟩
    have := World.ownsRow.cells h (g := g) (by rw [hv]; rfl) (j * 1 + i) u (flat_get (enc := TN.one) (k := 1) (fun _ => rfl) xs j x hx i u hi)
    rw [Addr.add_lit, Nat.zero_add] at this
    rw [Nat.zero_add]
    exact this
theorem whp_tab {cs : List TN.Cl} {rs : List TN.Rw} {B : Nat} {w' : World} {cv rv : Value} {hs : List Value} (hc : TN.SlAt (fun b => B ≤ b ∧ b < w'.heap.size) TN.Cl.cells 2 w' cv cs) (hr : Rws B w' rv hs rs) (hl : rs.length ≤ 1000000) : TN.TabIn (fun b => B ≤ b) w' (.agg #[cv, rv]) cs rs :=
  ⟨cv, rv, rfl, hc.imp (fun b hb => hb.1), hs, own_tnB hr.own (by rw [hr.len]; exact hl), ⟨hr.len, fun j x r h1 h2 => (hr.row j x r h1 h2).imp (fun b hb => hb.1)⟩⟩
theorem own_head {B e : Nat} {w : World} {v : Value} {xs : List Value} (h : Own TN.one 1 e B w v xs) : ∃ p cap, v = .slice p xs.length cap ∧ ∀ (j : Nat) u, xs[j]? = some u → ∃ g o, p = some ⟨g, o, none⟩ ∧ v.ownBlock = some g ∧ B ≤ g ∧ g < w.heap.size ∧ w.cell? ⟨g, o + j, none⟩ = some u := by
  rcases h.2 with ⟨hv, h0⟩ | ⟨g, cap, cur, hv, hg, hblk, hc, hm, q⟩
  · have hn : xs = [] := List.eq_nil_of_length_eq_zero h0
    subst hn
    exact ⟨_, _, hv, fun j u hu => by simp at hu⟩
  · refine ⟨_, _, hv, fun j u hu => ⟨g, 0, rfl, by rw [hv]; rfl, hg, lt_of_block hblk, ?_⟩⟩
    have := World.ownsRow.cells h (g := g) (by rw [hv]; rfl) (j * 1 + 0) u (flat_get (enc := TN.one) (k := 1) (fun _ => rfl) xs j u hu 0 u rfl)
    rw [Addr.add_lit, Nat.zero_add] at this
    rw [Nat.zero_add]
    simpa using this
theorem Wq.open {B : Nat} {w : World} {v h : Value} {r : TN.Rw} (hh : Wq B w v h r) (hr : r ≠ []) : ∃ g o c cur, h = .slice (some ⟨g, o, none⟩) r.length c ∧ B ≤ g ∧ v.ownBlock ≠ some g ∧ w.heap[g]? = some (.cells cur 40 (0, 0)) ∧ o + r.length * 11 ≤ cur.size := by
  obtain ⟨g, c, cur, e, h1, h2, h3, h4⟩ := hh hr
  exact ⟨g, 0, c, cur, e, h1, h2, h3, by omega⟩
theorem Wr.set {B b o : Nat} {w : World} {v u : Value} {hs : List Value} {rs : List TN.Rw} (h : Wr B w v hs rs) : Wr B (w.setCell ⟨b, o, none⟩ u) v hs rs := ⟨fun j x r h1 h2 hr => by
  obtain ⟨g, c, cur, e, p1, p2, p3, p4⟩ := h.row j x r h1 h2 hr
  by_cases hb : g = b
  · subst hb
    exact ⟨g, c, _, e, p1, p2, block_set p3 o u, by rw [Array.size_setIfInBounds]; exact p4⟩
  · exact ⟨g, c, cur, e, p1, p2, (Kp.set (T := fun k => k = b) rfl u).blk p3 hb, p4⟩⟩
theorem Wr.sets {B b : Nat} {v : Value} {hs : List Value} {rs : List TN.Rw} : ∀ (vs : List Value) (o : Nat) (w : World), Wr B w v hs rs → Wr B (w.setCells b o vs) v hs rs
  | [], _, _, h => h
  | u :: r, o, w, h => by rw [World.setCells]; exact Wr.sets r (o + 1) _ h.set
theorem sets_kp {b : Nat} : ∀ (vs : List Value) (o : Nat) (w : World), Kp (fun k => k = b) w (w.setCells b o vs)
  | [], _, w => Kp.refl _ w
  | u :: r, o, w => by rw [World.setCells]; exact (Kp.set (T := fun k => k = b) rfl u).trans (sets_kp r (o + 1) _)
theorem wq_there {w : World} {g o n j t : Nat} {cur : Array Value} (h3 : w.heap[g]? = some (.cells cur t (0, 0))) (h4 : o + n * 11 ≤ cur.size) (hj : j < n) : w.there g (o + j * 11) 11 := fun i hi => by
  refine ⟨?_, block_frozen h3 _⟩
  rw [block_cell h3, Array.getElem?_eq_getElem (by omega)]
  rfl
theorem size_v11 : (Try.prog.info? 40).map (·.size) = some 11 := by kernel_rfl
def c77 : Array Value := #[.int .i64 77, .int .i64 0, .string ⟨#[]⟩, .int .i64 0, .int .i64 0, .int .i64 0, .int .i64 0, .int .i64 0, .int .i64 0, .int .i64 0, .int .i64 0]
theorem tab_kp {Q T : Nat → Prop} {w w' : World} {v : Value} {cs : List TN.Cl} {rs : List TN.Rw} (h : TN.TabIn Q w v cs rs) (hk : Kp T w w') (ht : ∀ b, Q b → ¬ T b) : TN.TabIn Q w' v cs rs := by
  obtain ⟨c, r, rfl, hc, hs, hr, hh⟩ := h
  exact ⟨_, _, rfl, tnSl_kp hc hk ht, hs, tnSl_kp hr hk ht, ⟨hh.1, fun j x r h1 h2 => tnSl_kp (hh.2 j x r h1 h2) hk ht⟩⟩
end Go.Proofs.Ytjekpclbedbaoaa.PD
namespace Go.Proofs.Ytjekpclbedbaoaa.PD
open Go.RowKit Go.Joins Go.Sort Go.Proofs.Ytjekpclbedbaoaa.BS

theorem St_catB (x y : List UInt8) : St x ++ St y = St (x ++ y) := by
  unfold St
  apply ByteArray.ext
  simp
set_option maxRecDepth 100000 in
set_option maxHeartbeats 4000000 in
theorem alone_any {l : List UInt8} (hl : (l.length : Int) ≤ 140737488355328) (w : World) : Calls Try.prog 18 #[.string (St l)] w fun e w' => e = .returned (.bool (decide ((lexO l).2.2 = 0 ∧ (cnd l).2.2 = 0))) ∧ Below w.heap.size w w' := by
  have HL := hid (fun w => rlex_any l hl w)
  have HK : Hid (∀ (w : World) (tv : Value), SlAt (fun b => b < w.heap.size) Tp.cells 4 w tv ((lexO l).1.map tp) → Calls Try.prog 13 #[tv] w (WhP w (cnd l))) := fun w tv h => RCond_any h
  unfold LexP at HL
  generalize cnd l = R at *
  generalize lexO l = X at *
  obtain ⟨ns, pa, ea⟩ := R
  obtain ⟨us, xa, xe⟩ := X
  simp only at *
  have key : ∀ r : Bool, (r = true ↔ xe = 0 ∧ ea = 0) → decide (xe = 0 ∧ ea = 0) = r := fun r h => by rw [Bool.eq_iff_iff, h]; simp
  have HKy := hid key
  clear key
  generalize decide (xe = 0 ∧ ea = 0) = ok at *
  by_cases hx : xe = 0
  · subst hx
    by_cases he : ea = 0
    · subst he
      obtain rfl := HKy.out true (by simp)
      go_enter Try.func18, Try.ntmps18
      go_wp2_with (first
        | (go_at_call 12; refine (HL.out _).mono ?_; rintro e w1 ⟨tv, rfl, htr, hb⟩; have HB1 := hid hb; have HT1 := hid htr.sl; clear htr hb)
        | (go_at_call 13; refine (HK.out _ _ HT1.out).mono ?_; rintro e w2 ⟨vs, rfl, hns, hb⟩; obtain ⟨p5, c5, rfl, -, -⟩ := hns.len; have HB2 := hid (HB1.out.trans (hb.mono HB1.out.size)); clear hns hb))
      go_ret
      exact ⟨rfl, HB2.out.alloc HB2.out.size _⟩
    · obtain rfl := HKy.out false (by simp [he])
      have d1 : (ea == 0) = false := by simp; exact he
      clear he
      go_enter Try.func18, Try.ntmps18
      go_wp2_with (first
        | (go_at_call 12; refine (HL.out _).mono ?_; rintro e w1 ⟨tv, rfl, htr, hb⟩; have HB1 := hid hb; have HT1 := hid htr.sl; clear htr hb)
        | (go_at_call 13; refine (HK.out _ _ HT1.out).mono ?_; rintro e w2 ⟨vs, rfl, hns, hb⟩; obtain ⟨p5, c5, rfl, -, -⟩ := hns.len; have HB2 := hid (HB1.out.trans (hb.mono HB1.out.size)); clear hns hb))
      go_ret
      exact ⟨rfl, HB2.out.alloc HB2.out.size _⟩
  · obtain rfl := HKy.out false (by simp [hx])
    have d1 : (xe == 0) = false := by simp; exact hx
    clear hx
    go_enter Try.func18, Try.ntmps18
    go_wp2_with (first
      | (go_at_call 12; refine (HL.out _).mono ?_; rintro e w1 ⟨tv, rfl, htr, hb⟩; have HB1 := hid hb; have HT1 := hid htr.sl; clear htr hb)
      | (go_at_call 13; refine (HK.out _ _ HT1.out).mono ?_; rintro e w2 ⟨vs, rfl, hns, hb⟩; obtain ⟨p5, c5, rfl, -, -⟩ := hns.len; have HB2 := hid (HB1.out.trans (hb.mono HB1.out.size)); clear hns hb))
    go_ret
    exact ⟨rfl, HB2.out.alloc HB2.out.size _⟩
theorem cnd_128 {l : List UInt8} (h : (cnd l).2.2 = 0) : (cnd l).1.length ≤ 128 := by
  obtain ⟨r, j, e1, e2, e3⟩ := whole_ok (fun i c h => cond_bd _ 16 0 [] i c h) h
  unfold cnd wholeS
  split
  · simp
  · rw [e1]
    dsimp only
    split
    · simp
    · split
      · simp
      · rename_i h1 h2; show r.2.length ≤ 128; omega
end Go.Proofs.Ytjekpclbedbaoaa.PD
namespace Go.Proofs.Ytjekpclbedbaoaa.PD
open Go.RowKit Go.Joins Go.Sort Go.Proofs.Ytjekpclbedbaoaa.BS

set_option maxRecDepth 100000 in
set_option maxHeartbeats 16000000 in
theorem predSides_any {s u : List UInt8} {tv : Value} {cs : List TN.Cl} {rs : List TN.Rw} {w : World} (ht : TN.TabAt w tv cs rs) (hM : Mx w) (hz : ∀ r ∈ rs, Rsz r) (hls : (s.length : Int) ≤ 1048576) (hlu : (u.length : Int) ≤ 1048576) : Calls Try.prog 5 #[.string (St s), .string (St u), tv] w fun e w' => e = .returned (.bool true) ∧ Below w.heap.size w w' := by
  obtain ⟨cv, rv, rfl, hcs, hs, hrs, hhs⟩ := ht
  obtain ⟨W, hW⟩ : ∃ W, W = w.alloc (.cells #[cv, rv] 25) := ⟨_, rfl⟩
  have hb0 : Below w.heap.size w W := by rw [hW]; exact (Below.refl _ _).alloc (Nat.le_refl _) _
  have k0 : W.heap[w.heap.size]? = some (.cells #[cv, rv] 25 (0, 0)) := by rw [hW]; exact alloc_block w _
  have HB0 := hid hb0
  have KT0 := hid k0
  have HC0 := hid ((TN.SlAt.low hcs (by decide) TN.cl_len).imp (fun b hb => hb.2) |>.on hb0)
  have HR0 := hid ((TN.SlAt.low hrs (by decide) TN.one_len).imp (fun b hb => hb.2) |>.on hb0)
  have HH0 := hid (TN.HeadsIn.on (TN.heads_low hhs) hb0)
  have HM0 := hid (hM.on hb0)
  have HW := hid hW
  have HP := hid (mx_pos hM)
  have HZ := hid hz
  obtain ⟨oa, HAs, HOa⟩ : ∃ oa : Bool, Hid (∀ w, Calls Try.prog 18 #[.string (St s)] w fun e w' => e = .returned (.bool oa) ∧ Below w.heap.size w w') ∧ Hid (oa = true → (lexO s).2.2 = 0 ∧ (cnd s).2.2 = 0) := ⟨_, hid (fun w => alone_any (l := s) (by omega) w), hid of_decide_eq_true⟩
  obtain ⟨ob, HAu, HOb⟩ : ∃ ob : Bool, Hid (∀ w, Calls Try.prog 18 #[.string (St u)] w fun e w' => e = .returned (.bool ob) ∧ Below w.heap.size w w') ∧ Hid (ob = true → (lexO u).2.2 = 0 ∧ (cnd u).2.2 = 0) := ⟨_, hid (fun w => alone_any (l := u) (by omega) w), hid of_decide_eq_true⟩
  have hss := St_size s
  have hsu := St_size u
  have Hls := hid hls
  have Hlu := hid hlu
  obtain ⟨pc, cc, rfl, -⟩ := hcs
  obtain ⟨pr0, cr0, rfl, -⟩ := hrs
  clear hb0 k0 hW hhs hM hz hls hlu
  go_enter Try.func5, Try.ntmps5
  go_upto_region 1 with fail
  rw [← HW.out]
  clear HW
  go_upto_region 2 with (first
    | (go_at_call 10; refine (shown5_any W HM0.out).mono ?_; rintro e w3 ⟨rfl, hb⟩; have HB3 := hid (TN.below_on HB0.out hb); have hk1 := block_on KT0.out hb; have HKt := hid hk1; have y0 := block_cell hk1; have HC3 := hid (HC0.out.on hb); have HR3 := hid (HR0.out.on hb); have HH3 := hid (HH0.out.on hb); have HM3 := hid (HM0.out.on hb); clear hb hk1))
  go_upto_region 3 with (first
    | (go_at_call 11; refine (TN.cut5_q HC3.out HR3.out HH3.out).mono ?_; rintro e w4 ⟨r2, rfl, hr2, hh2, hb⟩; have hrz : ∀ r ∈ rs.take 100, Rsz r := (fun r hr => HZ.out r (List.mem_of_mem_take hr)); have hr1 : (rs.take 100).length ≤ 100 := (by rw [List.length_take]; omega); generalize hs.take 100 = hs4 at *; generalize rs.take 100 = rs4 at *; have HRz := hid hrz; have HLR := hid hr1; have HB4 := hid (TN.below_on HB3.out hb); have HKt4 := hid (block_on HKt.out hb); have HM4 := hid (HM3.out.on hb); have HC4 := hid (HC3.out.on hb); have HR4 := hid hr2; have HH4 := hid hh2; obtain ⟨pr, cr, rfl, -⟩ := hr2; have y4 := block_cell HKt4.out; have y5 := block_frozen HKt4.out; clear hb hh2 hr1 hrz y0))
  have KF := block_set (block_set HKt4.out 0 (.slice pc cs.length cc)) 1 (.slice pr hs4.length cr)
  have hkf : Kp (fun b => b = w.heap.size) w4 ((w4.setCell ⟨w.heap.size, 0, none⟩ (.slice pc cs.length cc)).setCell ⟨w.heap.size, 1, none⟩ (.slice pr hs4.length cr)) := (Kp.set (T := fun b => b = w.heap.size) rfl _).trans (Kp.set (T := fun b => b = w.heap.size) rfl _)
  have HKt5 : Hid (((w4.setCell ⟨w.heap.size, 0, none⟩ (.slice pc cs.length cc)).setCell ⟨w.heap.size, 1, none⟩ (.slice pr hs4.length cr)).heap[w.heap.size]? = some (.cells #[.slice pc cs.length cc, .slice pr hs4.length cr] 25 (0, 0))) := hid KF
  have HB5 := hid (HB4.out.trans (hkf.below HB4.out.size (fun b e => by omega)))
  have HM5 := hid (mx_kp HM4.out hkf (by have := HP.out; omega))
  have hT5 : TN.TabIn (fun b => b < w.heap.size) ((w4.setCell ⟨w.heap.size, 0, none⟩ (.slice pc cs.length cc)).setCell ⟨w.heap.size, 1, none⟩ (.slice pr hs4.length cr)) (.agg #[.slice pc cs.length cc, .slice pr hs4.length cr]) cs rs4 := TN.TabIn.set (fun b hb => by omega) (TN.TabIn.set (fun b hb => by omega) ⟨_, _, rfl, HC4.out, hs4, HR4.out, HH4.out⟩)
  have HT5 := hid hT5
  clear KF hkf y4 y5 HC4 HR4 HH4 HM4 hT5
  generalize (w4.setCell ⟨w.heap.size, 0, none⟩ (.slice pc cs.length cc)).setCell ⟨w.heap.size, 1, none⟩ (.slice pr hs4.length cr) = w5 at *
  have HWa := hid (fun W nv qs (hT : TN.TabIn (fun b => b < w.heap.size) W (.agg #[.slice pc cs.length cc, .slice pr hs4.length cr]) cs rs4) (hQ : Qx (fun b => b < W.heap.size) W nv qs) (hl : qs.length ≤ 1000) (hM : Mx W) (i : Int) => show Calls Try.prog 14 #[.agg #[.slice pc cs.length cc, .slice pr hs4.length cr], .agg #[nv], .int .i64 i] W (WhP' cs (rs4.filter (holdsX cs qs i)) W) by
    obtain ⟨c', r', e', hc, hs', hr, hh⟩ := hT
    cases e'
    exact where_any (i := i) hQ hl (hc.imp (fun _ _ => trivial)) (hr.imp (fun _ _ => trivial)) ⟨hh.1, fun j x r h1 h2 => (hh.2 j x r h1 h2).imp (fun _ _ => trivial)⟩ hM (fun _ _ _ r hr => HRz.out r hr) (by have := HLR.out; omega))
  by_cases h1 : 500 < s.length
  · have hI : 500 < (s.length : Int) := by omega
    clear h1
    go_wp2_with fail
    go_ret
    exact ⟨rfl, HB5.out⟩
  by_cases h2 : 500 < u.length
  · have hI : ¬ 500 < (s.length : Int) := by omega
    have hI2 : 500 < (u.length : Int) := by omega
    clear h1 h2
    go_wp2_with fail
    go_ret
    exact ⟨rfl, HB5.out⟩
  have hI : ¬ 500 < (s.length : Int) := by omega
  have hI2 : ¬ 500 < (u.length : Int) := by omega
  have Hl5 := hid (And.intro h1 h2)
  clear h1 h2
  cases oa
  · go_wp2_with (go_at_call 18; refine (HAs.out _).mono ?_; rintro e w6 ⟨rfl, hb⟩; have HB6 := hid hb; clear hb HAs)
    go_ret
    exact ⟨rfl, HB5.out.trans (HB6.out.mono HB5.out.size)⟩
  cases ob
  · go_wp2_with (first
      | (go_at_call 18; refine (HAs.out _).mono ?_; rintro e w6 ⟨rfl, hb⟩; have HB6 := hid hb; clear hb HAs)
      | (go_at_call 18; refine (HAu.out _).mono ?_; rintro e w7 ⟨rfl, hb⟩; have HB7 := hid (TN.below_on HB6.out hb); clear hb))
    go_ret
    exact ⟨rfl, HB5.out.trans (HB7.out.mono HB5.out.size)⟩
  go_upto_region 5 with (first
    | (go_at_call 18; refine (HAs.out _).mono ?_; rintro e w6 ⟨rfl, hb⟩; have HB6 := hid hb; clear hb HAs)
    | (go_at_call 18; refine (HAu.out _).mono ?_; rintro e w7 ⟨rfl, hb⟩; have HB7 := hid (TN.below_on HB6.out hb); clear hb))
  obtain ⟨hs1, hs2⟩ : (lexO s).2.2 = 0 ∧ (cnd s).2.2 = 0 := by first | exact HOa.out rfl | exact HOa.out trivial
  obtain ⟨hu1, hu2⟩ : (lexO u).2.2 = 0 ∧ (cnd u).2.2 = 0 := by first | exact HOb.out rfl | exact HOb.out trivial
  have HSU := hid (And.intro (And.intro hs1 hs2) (And.intro hu1 hu2))
  clear hs1 hs2 hu1 hu2 HAu HOa HOb
  go_upto_region 6 with fail
  go_loopw [8] (fun x wr => ∃ k : Int, (k = 0 ∨ k = 1 ∨ k = 2) ∧ x = .int .i64 k ∧ Hid (Below w5.heap.size w5 wr)) (fun x _ => 2 - (intOf x).toNat)
  case atStart => exact ⟨0, .inl rfl, rfl, HB7.out⟩
  case round =>
    obtain ⟨k, hk, rfl, HBr⟩ := hrel
    have HTr := hid (HT5.out.on HBr.out)
    have HMr := hid (HM5.out.on HBr.out)
    have KTr := hid (block_on HKt5.out HBr.out)
    by_cases hk2 : k = 2
    · subst hk2
      go_wp2_with fail
      go_ret
      exact ⟨rfl, HB5.out.trans (HBr.out.mono HB5.out.size)⟩
    have hk3 : k = 0 ∨ k = 1 := by omega
    clear hk hk2
    have PX : ∃ cw o : List UInt8, Hid (cw = o ++ [40] ∧ (o = [41, 32, 97, 110, 100, 32] ∨ o = [41, 32, 111, 114, 32])) ∧ ((k = 0 ∧ (⟨#[41, 32, 97, 110, 100, 32, 40]⟩ : ByteArray) = St cw) ∨ (k = 1 ∧ (⟨#[41, 32, 111, 114, 32, 40]⟩ : ByteArray) = St cw)) := by
      rcases hk3 with h | h
      · exact ⟨[41, 32, 97, 110, 100, 32, 40], [41, 32, 97, 110, 100, 32], ⟨rfl, .inl rfl⟩, .inl ⟨h, rfl⟩⟩
      · exact ⟨[41, 32, 111, 114, 32, 40], [41, 32, 111, 114, 32], ⟨rfl, .inr rfl⟩, .inr ⟨h, rfl⟩⟩
    clear hk3
    obtain ⟨cw, o, HO, ⟨rfl, hlit⟩ | ⟨rfl, hlit⟩⟩ := PX
    all_goals
      go_upto_region 11 with fail
      obtain ⟨c1, hlit1, hc1⟩ : ∃ c, (⟨#[40]⟩ : ByteArray) = St c ∧ c = [40] := ⟨_, rfl, rfl⟩
      obtain ⟨c3, hlit3, hc3⟩ : ∃ c, (⟨#[41]⟩ : ByteArray) = St c ∧ c = [41] := ⟨_, rfl, rfl⟩
      have lc1 : c1.length = 1 := by rw [hc1]; rfl
      have lc3 : c3.length = 1 := by rw [hc3]; rfl
      have lcw : cw.length ≤ 10 := by rw [HO.out.1]; rcases HO.out.2 with h | h <;> rw [h] <;> decide
      have l5 := Hl5.out
      obtain ⟨xa0, qxa0⟩ : ∃ l, l = c1 ++ s := ⟨_, rfl⟩
      have catxa0 : St c1 ++ St s = St xa0 := by rw [St_catB, qxa0]
      have lenxa0 : xa0.length = c1.length + s.length := by rw [qxa0, List.length_append]
      have sizxa0 : ¬ 9223372036854775807 < (St c1).size + (St s).size := by rw [St_size, St_size]; omega
      obtain ⟨xa1, qxa1⟩ : ∃ l, l = xa0 ++ cw := ⟨_, rfl⟩
      have catxa1 : St xa0 ++ St cw = St xa1 := by rw [St_catB, qxa1]
      have lenxa1 : xa1.length = xa0.length + cw.length := by rw [qxa1, List.length_append]
      have sizxa1 : ¬ 9223372036854775807 < (St xa0).size + (St cw).size := by rw [St_size, St_size]; omega
      obtain ⟨xa2, qxa2⟩ : ∃ l, l = xa1 ++ u := ⟨_, rfl⟩
      have catxa2 : St xa1 ++ St u = St xa2 := by rw [St_catB, qxa2]
      have lenxa2 : xa2.length = xa1.length + u.length := by rw [qxa2, List.length_append]
      have sizxa2 : ¬ 9223372036854775807 < (St xa1).size + (St u).size := by rw [St_size, St_size]; omega
      obtain ⟨xa3, qxa3⟩ : ∃ l, l = xa2 ++ c3 := ⟨_, rfl⟩
      have catxa3 : St xa2 ++ St c3 = St xa3 := by rw [St_catB, qxa3]
      have lenxa3 : xa3.length = xa2.length + c3.length := by rw [qxa3, List.length_append]
      have sizxa3 : ¬ 9223372036854775807 < (St xa2).size + (St c3).size := by rw [St_size, St_size]; omega
      have finxa : xa3 = sideT o s u := by rw [qxa3, qxa2, qxa1, qxa0, hc1, hc3, HO.out.1]; simp [sideT]
      have flnxa : xa3.length ≤ 4000 := by omega
      obtain ⟨xb0, qxb0⟩ : ∃ l, l = c1 ++ u := ⟨_, rfl⟩
      have catxb0 : St c1 ++ St u = St xb0 := by rw [St_catB, qxb0]
      have lenxb0 : xb0.length = c1.length + u.length := by rw [qxb0, List.length_append]
      have sizxb0 : ¬ 9223372036854775807 < (St c1).size + (St u).size := by rw [St_size, St_size]; omega
      obtain ⟨xb1, qxb1⟩ : ∃ l, l = xb0 ++ cw := ⟨_, rfl⟩
      have catxb1 : St xb0 ++ St cw = St xb1 := by rw [St_catB, qxb1]
      have lenxb1 : xb1.length = xb0.length + cw.length := by rw [qxb1, List.length_append]
      have sizxb1 : ¬ 9223372036854775807 < (St xb0).size + (St cw).size := by rw [St_size, St_size]; omega
      obtain ⟨xb2, qxb2⟩ : ∃ l, l = xb1 ++ s := ⟨_, rfl⟩
      have catxb2 : St xb1 ++ St s = St xb2 := by rw [St_catB, qxb2]
      have lenxb2 : xb2.length = xb1.length + s.length := by rw [qxb2, List.length_append]
      have sizxb2 : ¬ 9223372036854775807 < (St xb1).size + (St s).size := by rw [St_size, St_size]; omega
      obtain ⟨xb3, qxb3⟩ : ∃ l, l = xb2 ++ c3 := ⟨_, rfl⟩
      have catxb3 : St xb2 ++ St c3 = St xb3 := by rw [St_catB, qxb3]
      have lenxb3 : xb3.length = xb2.length + c3.length := by rw [qxb3, List.length_append]
      have sizxb3 : ¬ 9223372036854775807 < (St xb2).size + (St c3).size := by rw [St_size, St_size]; omega
      have finxb : xb3 = sideT o u s := by rw [qxb3, qxb2, qxb1, qxb0, hc1, hc3, HO.out.1]; simp [sideT]
      have flnxb : xb3.length ≤ 4000 := by omega
      have HLA := hid (fun w => rlex_any xa3 (by omega) w)
      have HLB := hid (fun w => rlex_any xb3 (by omega) w)
      have HKA : Hid (∀ (w : World) (tv : Value), SlAt (fun b => b < w.heap.size) Tp.cells 4 w tv ((lexO xa3).1.map tp) → Calls Try.prog 13 #[tv] w (WhP w (cnd xa3))) := fun w tv h => RCond_any h
      have HKB : Hid (∀ (w : World) (tv : Value), SlAt (fun b => b < w.heap.size) Tp.cells 4 w tv ((lexO xb3).1.map tp) → Calls Try.prog 13 #[tv] w (WhP w (cnd xb3))) := fun w tv h => RCond_any h
      have HBo : Hid ((lexO xa3).2.2 = 0 → (cnd xa3).2.2 = 0 → (lexO xb3).2.2 = 0 → (cnd xb3).2.2 = 0 → 0 < (cnd xa3).1.length ∧ 0 < (cnd xb3).1.length ∧ (cnd xa3).1.length ≤ 128 ∧ (cnd xb3).1.length ≤ 128 ∧ ∀ cs row, tvX cs row (cnd xa3).1 ((cnd xa3).1.length - 1) = tvX cs row (cnd xb3).1 ((cnd xb3).1.length - 1)) := hid (by
        rw [finxa, finxb]
        exact fun a1 a2 b1 b2 => ⟨cnd_pos a2, cnd_pos b2, cnd_128 a2, cnd_128 b2, fun cs row => sides_same HO.out.2 HSU.out.1.1 HSU.out.1.2 HSU.out.2.1 HSU.out.2.2 a1 a2 b1 b2⟩)
      unfold LexP at HLA HLB
      clear finxa finxb flnxa flnxb lc1 lc3 lcw l5 hc1 hc3 qxa0 qxa1 qxa2 qxa3 qxb0 qxb1 qxb2 qxb3 lenxa0 lenxa1 lenxa2 lenxa3 lenxb0 lenxb1 lenxb2 lenxb3
      generalize cnd xa3 = RA at *
      generalize lexO xa3 = LA at *
      generalize cnd xb3 = RB at *
      generalize lexO xb3 = LB at *
      obtain ⟨nA, ia, eA⟩ := RA
      obtain ⟨nB, ib, eB⟩ := RB
      obtain ⟨uA, ja, xA⟩ := LA
      obtain ⟨uB, jb, xB⟩ := LB
      simp only at HBo
      have HBr5 := hid (HB5.out.trans (HBr.out.mono HB5.out.size))
      go_upto_region 13 with (first
        | (go_at_call 12; refine (HLA.out _).mono ?_; rintro e wa ⟨tva, rfl, htr, hb⟩; have HBa := hid hb; have HTa := hid htr.sl; clear htr hb)
        | (go_at_call 13; refine (HKA.out _ _ HTa.out).mono ?_; rintro e wb ⟨vs, rfl, hns, hb⟩; obtain ⟨pA, cA, rfl, -, -⟩ := hns.len; have HNA := hid hns; have HBb := hid (HBa.out.trans (hb.mono HBa.out.size)); clear hns hb))
      have hbA : Below wb.heap.size wb (wb.alloc (.cells #[.slice pA nA.length cA] 34)) := (Below.refl _ _).alloc (Nat.le_refl _) _
      have KA := hid (alloc_block wb (.cells #[.slice pA nA.length cA] 34))
      obtain ⟨qa, hQa, hsa, hqla⟩ := nq_qx HNA.out
      have HQa := hid (qx_on hQa (Nat.le_refl _) hbA)
      have HBc := hid (TN.below_on HBb.out hbA)
      have HSa := hid (And.intro hsa hqla)
      clear hbA hQa hsa hqla HBa HTa HBb HNA
      generalize wb.alloc (.cells #[.slice pA nA.length cA] 34) = wc at *
      go_upto_region 15 with (first
        | (go_at_call 12; refine (HLB.out _).mono ?_; rintro e wd ⟨tvb, rfl, htr, hb⟩; have HBd := hid hb; have HTd := hid htr.sl; clear htr hb)
        | (go_at_call 13; refine (HKB.out _ _ HTd.out).mono ?_; rintro e we ⟨vs, rfl, hns, hb⟩; obtain ⟨pB, cB, rfl, -, -⟩ := hns.len; have HNB := hid hns; have HBe := hid (HBd.out.trans (hb.mono HBd.out.size)); clear hns hb))
      have hbB : Below we.heap.size we (we.alloc (.cells #[.slice pB nB.length cB] 34)) := (Below.refl _ _).alloc (Nat.le_refl _) _
      have KB := hid (alloc_block we (.cells #[.slice pB nB.length cB] 34))
      obtain ⟨qb, hQb, hsb, hqlb⟩ := nq_qx HNB.out
      have HQb := hid (qx_on hQb (Nat.le_refl _) hbB)
      have hcf : Below wc.heap.size wc (we.alloc (.cells #[.slice pB nB.length cB] 34)) := TN.below_on HBe.out hbB
      have HQa2 := hid (qx_on HQa.out (Nat.le_refl _) hcf)
      have KA2 := hid (block_on KA.out hcf)
      have HBf := hid (TN.below_on HBc.out hcf)
      have HSb := hid (And.intro hsb hqlb)
      clear hbB hQb hsb hqlb HBd HTd HBe HNB hcf KA HQa
      generalize we.alloc (.cells #[.slice pB nB.length cB] 34) = wf at *
      have HBt := hid (HBr5.out.trans (HBf.out.mono HBr5.out.size))
      have d0 : ((0 : Int) != 0) = false := rfl
      by_cases hx : xA = 0
      case neg =>
        have d1 : (xA != 0) = true := by simp; exact hx
        go_wp2_with fail
        go_ret
        exact ⟨rfl, HBt.out⟩
      subst hx
      by_cases hx : eA = 0
      case neg =>
        have d1 : (eA != 0) = true := by simp; exact hx
        go_wp2_with fail
        go_ret
        exact ⟨rfl, HBt.out⟩
      subst hx
      by_cases hx : xB = 0
      case neg =>
        have d1 : (xB != 0) = true := by simp; exact hx
        go_wp2_with fail
        go_ret
        exact ⟨rfl, HBt.out⟩
      subst hx
      by_cases hx : eB = 0
      case neg =>
        have d1 : (eB != 0) = true := by simp; exact hx
        go_wp2_with fail
        go_ret
        exact ⟨rfl, HBt.out⟩
      subst hx
      obtain ⟨hA0, hB0, hA1, hB1, hsame⟩ := HBo.out rfl rfl rfl rfl
      have HR12 : Hid (rs4.filter (holdsX cs qa ((nA.length : Int) - 1)) = rs4.filter (holdsX cs qb ((nB.length : Int) - 1))) := hid (filter_tv HSa.out.1 HSb.out.1 hA0 hB0 (fun row => hsame cs row))
      have HLa := hid (show qa.length ≤ 1000 by rw [HSa.out.2]; omega)
      have HLb := hid (show qb.length ≤ 1000 by rw [HSb.out.2]; omega)
      have HF1 : Hid ((rs4.filter (holdsX cs qa ((nA.length : Int) - 1))).length ≤ 1000000) := hid (Nat.le_trans (List.length_filter_le _ _) (by have := HLR.out; omega))
      have nAI : (nA.length : Int) ≤ 128 := by omega
      have nBI : (nB.length : Int) ≤ 128 := by omega
      have nA0 : 0 < (nA.length : Int) := by omega
      have nB0 : 0 < (nB.length : Int) := by omega
      have HTf := hid ((HTr.out).on HBf.out)
      have HMf := hid (HMr.out.on HBf.out)
      have KTf := hid (block_on KTr.out HBf.out)
      clear hsame hA0 hB0 hA1 hB1
      have z0 := block_cell KTf.out
      have z1 := block_cell KA2.out 0
      go_upto_region 17 with fail
      go_upto_region 18 with (first
        | (go_at_call 14; refine (HWa.out _ _ _ HTf.out HQa2.out HLa.out HMf.out _).mono ?_; rintro e wg ⟨cvg, rvg, hsg, rfl, hcg, hrg, hb⟩; have HT1 := hid (whp_tab hcg hrg HF1.out); have HBg := hid hb; obtain ⟨pcg, ccg, rfl, -⟩ := id hcg; obtain ⟨prg, crg, hprg, -⟩ := own_head hrg.own; subst hprg; clear hcg hrg hb z0 z1))
      have kg := alloc_block wg (.cells #[.slice pcg cs.length ccg, .slice prg hsg.length crg] 25)
      have hag : Below wg.heap.size wg (wg.alloc (.cells #[.slice pcg cs.length ccg, .slice prg hsg.length crg] 25)) := (Below.refl _ _).alloc (Nat.le_refl _) _
      have HBh := hid (TN.below_on HBg.out hag)
      have Kg := hid kg
      have HT1h := hid (HT1.out.on hag)
      clear kg hag HBg HT1
      generalize wg.alloc (.cells #[.slice pcg cs.length ccg, .slice prg hsg.length crg] 25) = wh at *
      have HTh := hid (HTf.out.on HBh.out)
      have HMh := hid (HMf.out.on HBh.out)
      have HQh := hid (qx_on HQb.out (Nat.le_refl _) HBh.out)
      have z0 := block_cell (block_on KTf.out HBh.out)
      have z1 := block_cell (block_on KB.out HBh.out) 0
      go_upto_region 19 with (first
        | (go_at_call 14; refine (HWa.out _ _ _ HTh.out HQh.out HLb.out HMh.out _).mono ?_; rintro e wi ⟨cvi, rvi, hsi, rfl, hci, hri, hb⟩; rw [← HR12.out] at hri; have HT2 := hid (whp_tab hci hri HF1.out); have HBi := hid hb; obtain ⟨pci, cci, rfl, -⟩ := id hci; obtain ⟨pri, cri, hpri, -⟩ := own_head hri.own; subst hpri; clear hci hri hb z0 z1))
      have ki := alloc_block wi (.cells #[.slice pci cs.length cci, .slice pri hsi.length cri] 25)
      have hai : Below wi.heap.size wi (wi.alloc (.cells #[.slice pci cs.length cci, .slice pri hsi.length cri] 25)) := (Below.refl _ _).alloc (Nat.le_refl _) _
      have HBj := hid (TN.below_on HBi.out hai)
      have Kj := hid ki
      have HT2j := hid (HT2.out.on hai)
      clear ki hai HBi HT2
      generalize wi.alloc (.cells #[.slice pci cs.length cci, .slice pri hsi.length cri] 25) = wj at *
      have HSm := hid (TN.rsame_any ((HT1h.out.on HBj.out).imp (fun _ _ => trivial)) (HT2j.out.imp (fun _ _ => trivial)))
      have HBk := hid (TN.below_on HBf.out (TN.below_on HBh.out HBj.out))
      have z2 := block_cell (block_on Kg.out HBj.out)
      have z3 := block_cell Kj.out
      go_upto_region 20 with (first
        | (go_at_call 15; refine HSm.out.mono ?_; rintro e wk ⟨rfl, hb⟩; rw [decide_eq_true ⟨rfl, rfl⟩]; have HBl := hid (TN.below_on HBk.out hb); clear hb z2 z3))
      go_wp2_with fail
      go_roundw
      case rel => first | exact ⟨1, .inr (.inl rfl), by go_num, TN.below_on HBr.out HBl.out⟩ | exact ⟨2, .inr (.inr rfl), by go_num, TN.below_on HBr.out HBl.out⟩
      case measure => decide
theorem predSides_b {s u : ByteArray} {tv : Value} {cs : List TN.Cl} {rs : List TN.Rw} {w : World} (ht : TN.TabAt w tv cs rs) (hM : Mx w) (hz : ∀ r ∈ rs, Rsz r) (hls : s.size ≤ 1048576) (hlu : u.size ≤ 1048576) : Calls Try.prog 5 #[.string s, .string u, tv] w fun e w' => e = .returned (.bool true) ∧ Below w.heap.size w w' := by
  have h1 : St s.data.toList = s := by cases s; simp [St]
  have h2 : St u.data.toList = u := by cases u; simp [St]
  have h3 : s.data.toList.length = s.size := rfl
  have h4 : u.data.toList.length = u.size := rfl
  have := predSides_any (s := s.data.toList) (u := u.data.toList) ht hM hz (by omega) (by omega)
  rwa [h1, h2] at this
end Go.Proofs.Ytjekpclbedbaoaa.PD
namespace Go
section
variable {H : Type} {enc : TypeId × Value → H}
theorem Proofs.Ytjekpclbedbaoaa.returns_shaped {a : Assume} {C : Checked} {os : Os} {f : FuncId} {fn : Func} {s : ChangeSpec} {conds : List PathCond} {apart fresh handsOn again : Bool}
    (own : ownKnob C.prog.godebug = none) (started : os.Started) (noInit : C.prog.inits.idxOf? f = none) (hfn : C.prog.funcs[f]? = some fn)
    (witness : ∃ (w : World) (tape : Tape) (i : Input), w.os = os ∧ (w.forCall tape i).Shaped C.prog ∧ i.vars = [] ∧ Input.okWide C.prog (w.forCall tape i) .any w.heap.size f i ∧
      s.pre6 enc C.prog fn conds apart (w.forCall tape i).memory i.args ∧ a.holds C.prog (lone (Frame.enter C.prog f i.args .normal) [] (w.forCall tape i)))
    (contract : ∀ (W : World) (base : Nat) (args : Array Value) (ds gs : List (DataW H)) (before : List MemPlace), W.ShapedOpen C.prog →
      (∀ (j : Nat) t v, fn.params[j]? = some t → args[j]? = some v → Value.okWide C.prog W .any base t v) →
      DataW.Whole enc C.prog fn.params.toList s.vars apart W args.toList ds gs before →
      conds.all (PathCond.test C.prog ⟨fn.params.toList, ds, s.plain.varTypes C.prog, gs⟩) = true →
      (DataW.weightsEach C.prog (fn.params.toList ++ s.plain.varTypes C.prog) (ds ++ gs)).all (· ≤ reachBytes) = true →
      a.holds C.prog (lone (Frame.enter C.prog f args .normal) [] W) →
      Calls C.prog f args W fun e W' => ∃ v, e = .returned v ∧ s.post enc C.prog fn apart fresh handsOn again W args v W') :
    ReturnsInHanded a C os f .any (s.pre6 enc C.prog fn conds apart) (s.post enc C.prog fn apart fresh handsOn again) := by
  refine returnsInHanded_of_calls own started noInit witness ?_
  intro w tape i _ hsh _ hok hpre hholds
  obtain ⟨_, _, _, fn', hfn', _, _, _, _, hval⟩ := hok
  have e : fn' = fn := Option.some.inj (hfn'.symm.trans hfn)
  subst e
  obtain ⟨⟨ds, gs, before, hw, hc⟩, hz⟩ := hpre
  have hw' := DataW.Whole.of_heap (w' := w.forCall tape i) (by rfl) hw
  refine (contract (w.forCall tape i) w.heap.size i.args ds gs before hsh hval hw' hc (hz.weights hw) hholds).mono fun e W' ⟨v, he, hp⟩ => ?_
  subst he
  exact ChangeSpec.post_blind hp
end
end Go
namespace Go.Proofs.Ytjekpclbedbaoaa.PD
open Go.RowKit

set_option maxRecDepth 100000 in
theorem mx_of_shape {w : World} (h : w.ShapedOpen Try.prog) : Mx w := by
  obtain ⟨cs, hh, hs, hr⟩ := h.1 0 #[.int .i64 0] 3 (of_decide_eq_true (by kernel_rfl)) (by kernel_rfl)
  obtain ⟨ts, hts, _, hall⟩ := hr (by kernel_rfl)
  have hc : Try.prog.cellTypes Try.prog.depth 3 = some [3] := by kernel_rfl
  rw [hc] at hts
  cases hts
  have h1 : 0 < cs.size := by rw [hs]; decide
  obtain ⟨u, hu, hok⟩ := hall 0 cs[0] (Array.getElem?_eq_getElem h1)
  simp at hu
  subst hu
  unfold Cell.ok at hok
  rw [Try.underlying3] at hok
  generalize hv : cs[0] = v at hok
  cases v <;> try exact hok.elim
  rename_i k n
  obtain ⟨rfl, -⟩ := hok
  exact ⟨n, by simp [World.cell?, hh, h1, hv]⟩
end Go.Proofs.Ytjekpclbedbaoaa.PD
namespace Go
section
variable {H : Type} {enc : TypeId × Value → H}
theorem Proofs.Ytjekpclbedbaoaa.returns_shaped_cond {a : Assume} {C : Checked} {os : Os} {f : FuncId} {fn : Func} {s : OpenSpec} {k : (H : Type) → List (DataW H) → Bool} (hk : s.cond = some k) {F : Stop.Interp} {conds : List PathCond} {apart fresh handsOn again : Bool}
    (own : ownKnob C.prog.godebug = none) (started : os.Started) (noInit : C.prog.inits.idxOf? f = none) (hfn : C.prog.funcs[f]? = some fn)
    (witness : ∃ (w : World) (tape : Tape) (i : Input), w.os = os ∧ (w.forCall tape i).Shaped C.prog ∧ i.vars = [] ∧ Input.okWide C.prog (w.forCall tape i) .any w.heap.size f i ∧
      s.pre6 enc C.prog fn conds apart (w.forCall tape i).memory i.args ∧ a.holds C.prog (lone (Frame.enter C.prog f i.args .normal) [] (w.forCall tape i)))
    (contract : ∀ (W : World) (base : Nat) (args : Array Value) (ds gs : List (DataW H)) (before : List MemPlace), W.ShapedOpen C.prog →
      (∀ (j : Nat) t v, fn.params[j]? = some t → args[j]? = some v → Value.okWide C.prog W .any base t v) →
      DataW.Whole enc C.prog fn.params.toList s.vars apart W args.toList ds gs before → k H (ds ++ gs) = true →
      (DataW.weightsEach C.prog (fn.params.toList ++ s.bare.plain.varTypes C.prog) (ds ++ gs)).all (· ≤ reachBytes) = true →
      Calls C.prog f args W fun e W' => ∃ v, e = .returned v ∧ (s.at F).post enc C.prog fn apart fresh handsOn again W args v W') :
    ReturnsInHanded a C os f .any (s.pre6 enc C.prog fn conds apart) ((s.at F).post enc C.prog fn apart fresh handsOn again) := by
  refine returnsInHanded_of_calls own started noInit witness ?_
  intro w tape i _ hsh _ hok hpre _
  obtain ⟨_, _, _, fn2, hfn2, _, _, _, _, hval⟩ := hok
  obtain rfl : fn2 = fn := Option.some.inj (hfn2.symm.trans hfn)
  obtain ⟨ds, gs, before, hw, -, hkk⟩ := (OpenSpec.pre_some hk conds apart _ _).1 hpre.1
  refine (contract (w.forCall tape i) w.heap.size i.args ds gs before hsh hval (DataW.Whole.of_heap (w' := w.forCall tape i) (by rfl) hw) hkk (hpre.2.weights hw)).mono ?_
  rintro e W' ⟨v, rfl, hp⟩
  exact ChangeSpec.post_blind hp
end
end Go
namespace Go.Proofs.Ytjekpclbedbaoaa.PD
open Go.RowKit

theorem shaped_open {w : World} (h : w.ShapedOpen Try.prog) : Mx w := mx_of_shape h
end Go.Proofs.Ytjekpclbedbaoaa.PD
