/-
  Top's step, walked.
  What Top tells.
  Align's step: rows of one's own, their times laid down.
-/
import Derived.Test.YtcidijjbcebcbaaKH16
import Derived.Test.YtcidijjbcebcbaaKI01
import Derived.Test.YtcidijjbcebcbaaKI08
import Derived.Laws.EntriesVeiled
namespace Go.Proofs.Ytcidijjbcebcbaa.RO
open Go.RowKit Go.Joins Go.Sort

theorem headsLow {Q : Nat → Prop} {w : World} {hs : List Value} {rs : List TN.Rw} (h : TN.HeadsIn Q w hs rs) : TN.HeadsIn (fun b => Q b ∧ b < w.heap.size) w hs rs := ⟨h.1, fun j x r h1 h2 => TN.SlAt.lt (fun _ => rfl) (by decide) (h.2 j x r h1 h2)⟩
theorem headsKp {Q T : Nat → Prop} {w w' : World} {hs : List Value} {rs : List TN.Rw} (h : TN.HeadsIn Q w hs rs) (hk : Kp T w w') (ht : ∀ b, Q b → ¬ T b) : TN.HeadsIn Q w' hs rs := ⟨h.1, fun j x r h1 h2 => rowKp (h.2 j x r h1 h2) hk ht⟩
theorem colsKp {cs : List TN.Cl} {Q T : Nat → Prop} {w w' : World} {v : Value} (h : TN.SlAt Q TN.Cl.cells 2 w v cs) (hk : Kp T w w') (ht : ∀ b, Q b → ¬ T b) : TN.SlAt Q TN.Cl.cells 2 w' v cs := by
  obtain ⟨p, cap, hv, hc, hm, hx⟩ := h
  exact ⟨p, cap, hv, hc, hm, fun hne => let ⟨b, o, hp, hQ, hj⟩ := hx hne; ⟨b, o, hp, hQ, fun j x hjx i u hu => hk.cell (hj j x hjx i u hu) (ht b hQ.1)⟩⟩
set_option maxRecDepth 100000 in
set_option maxHeartbeats 4000000 in
theorem top1_any {c rv : Value} {cs : List TN.Cl} {rs : List TN.Rw} {bt bp bn p n : Nat} {w : World} (ht : TN.TabAt w (.agg #[c, rv]) cs rs) (h0 : w.cell? ⟨bt, 0, none⟩ = some c) (h1 : w.cell? ⟨bt, 1, none⟩ = some rv) (hp : w.cell? ⟨bp, 0, none⟩ = some (.int .i64 (p : Int))) (hn : w.cell? ⟨bn, 0, none⟩ = some (.int .i64 (n : Int))) (hpr : ∀ r ∈ rs, p < r.length ∧ r.length ≤ 1000000) (hrl : rs.length ≤ 1000000) : Calls Try.prog 59 #[.pointer (some ⟨bt, 0, none⟩), .pointer (some ⟨bp, 0, none⟩), .pointer (some ⟨bn, 0, none⟩)] w fun e w' => ∃ v', e = .returned v' ∧ TN.TabAt w' v' cs ((topL p rs).take n) ∧ Below w.heap.size w w' := by
  obtain ⟨c', rv', e, hc, hs, hr, hh⟩ := ht
  cases e
  have HT := hid (show TN.TabAt w (.agg #[c, rv]) cs rs from ⟨c, rv, rfl, hc, hs, hr, hh⟩)
  obtain ⟨pc, cc, rfl, -⟩ := id hc
  obtain ⟨pr, cr, rfl, -⟩ := id hr
  clear hc hr hh
  have HP := hid hp
  have HN := hid hn
  have HPR := hid hpr
  have btl := block_lt_of_cell h0
  have bpl := block_lt_of_cell hp
  have bnl := block_lt_of_cell hn
  simp only at btl bpl bnl
  obtain ⟨O0, hO0⟩ : ∃ O, O = Obj.cells #[.slice none 0 0, .slice none 0 0] 28 (0, 0) := ⟨_, rfl⟩
  have HB := hid ((Below.refl w.heap.size w).alloc (Nat.le_refl _) O0)
  have K0 := hid (alloc_block w O0)
  obtain ⟨W, hW⟩ : ∃ W, W = w.alloc O0 := ⟨_, rfl⟩
  rw [← hW] at HB K0
  rw [hO0] at K0
  have HW := hid hW
  rw [hO0] at HW
  have q0 : W.cell? ⟨bt, 0, none⟩ = _ := (HB.out.cell (p := ⟨bt, 0, none⟩) btl).trans h0
  have q1 : W.cell? ⟨bt, 1, none⟩ = _ := (HB.out.cell (p := ⟨bt, 1, none⟩) btl).trans h1
  have lW := lt_of_block K0.out
  clear hW hO0 hp hn h0 h1 hpr
  generalize cs.length = nc at *
  generalize hs.length = nr at *
  go_enter Try.func59, Try.ntmps59
  go_upto_region 1 with fail
  rw [← HW.out]
  clear HW
  go_upto_region 2 with (first | (go_at_call 60; refine (TN.canon_w (HT.out.on HB.out)).mono ?_; rintro e w1 ⟨v1, rfl, ht1, hb1⟩; have HT1 := hid ht1; have HB1 := hid hb1; obtain ⟨pc1, cc1, b1, rfl⟩ := ht1.form; clear ht1 hb1))
  obtain ⟨c1, B1, hs1, e1, hC1, hB1, hsz, hblk, hhd⟩ := HT1.out
  cases e1
  have hlr : (TN.sortR rs).length ≤ 1000000 := by rw [TN.sortR_length]; exact hrl
  have hl1 : hs1.length = (TN.sortR rs).length := hhd.1
  have hS := TN.sortR_up rs
  have hpS : ∀ r ∈ TN.sortR rs, p < r.length ∧ r.length ≤ 1000000 := fun r hr => HPR.out r ((TN.sortR_perm rs).mem_iff.1 hr)
  have hTop : topL p (TN.sortR rs) = topL p rs := topL_perm_eq (TN.sortR_perm rs)
  have hb1 := HB1.out.size
  have hB1l : b1 < w1.heap.size := lt_of_block hblk
  generalize TN.sortR rs = S at *
  generalize hk : S.length = k at *
  have kI : (k : Int) ≤ 1000000 := by omega
  have hbW : Below w1.heap.size w1 (w1.alloc (.cells #[.slice pc1 cs.length cc1, .slice (some ⟨b1, 0, none⟩) k k] 28)) := (Below.refl _ _).alloc (Nat.le_refl _) _
  have K4 := hid (alloc_block w1 (.cells #[.slice pc1 cs.length cc1, .slice (some ⟨b1, 0, none⟩) k k] 28))
  have HBk := hid (block_on hblk hbW)
  have HHd := hid (hhd.on hbW)
  have HH2 := hid ((headsLow hhd).on hbW)
  have HC1 := hid (hC1.on hbW)
  have K00 := hid (block_on (block_on K0.out HB1.out) hbW)
  have HB2 := hid (TN.below_on (TN.below_on HB.out HB1.out) hbW)
  obtain ⟨bq, hbq⟩ : ∃ b, b = w1.heap.size := ⟨_, rfl⟩
  have HBQ := hid hbq
  rw [← hbq] at hbW K4 hB1l HH2
  rw [← hbq]
  generalize w1.alloc (.cells #[.slice pc1 cs.length cc1, .slice (some ⟨b1, 0, none⟩) k k] 28) = W2 at *
  have hpc : W2.cell? ⟨bp, 0, none⟩ = some (.int .i64 (p : Int)) := (HB2.out.cell (p := ⟨bp, 0, none⟩) bpl).trans HP.out
  have hnc : W2.cell? ⟨bn, 0, none⟩ = some (.int .i64 (n : Int)) := (HB2.out.cell (p := ⟨bn, 0, none⟩) bnl).trans HN.out
  have HSS := hid (SS.sortStable_any (cap := k) (sls_of HHd.out) enters_top11 (cAt_cm p S) (hk ▸ cp_of HHd.out hpS hpc (by omega)) (rf_start HBk.out hl1) hlr)
  have y4 := block_cell K4.out
  have HSu := hid hS
  have HTop := hid hTop
  have HKk := hid hk
  have HNC := hid hnc
  have HL1 := hid hl1
  clear HT1 hbq hblk hhd hC1 hS hpS hTop hk hpc hnc hl1 HPR HP HN q0 q1
  go_upto_region 3 with (first | (go_at_call 61; refine HSS.out.mono ?_; rintro e w3 ⟨rfl, ⟨g, r1, r2, r3⟩, hk3⟩; have HR1 := hid r1; have HR2 := hid r2; have HR3 := hid r3; have HK3 := hid hk3; clear r1 r2 r3 hk3))
  have hW2s := HB2.out.size
  have K5 := hid (HK3.out.blk K4.out (fun e => by have e' : bq = b1 := e; omega))
  have K01 := hid (HK3.out.blk K00.out (fun e => by have e' : w.heap.size = b1 := e; omega))
  have y5 := block_cell K5.out
  have x5 := block_frozen K5.out
  have yn : w3.cell? ⟨bn, 0, none⟩ = some (.int .i64 (n : Int)) := HK3.out.cell HNC.out (fun e => by have e' : bn = b1 := e; omega)
  clear y4
  obtain ⟨m, hm⟩ : ∃ m, m = min n k := ⟨_, rfl⟩
  have hmI : min (n : Int) (k : Int) = (m : Int) := by omega
  have mkI : (m : Int) ≤ k := by omega
  have HMm := hid hm
  clear hm
  go_upto_region 4 with fail
  have K6 := hid (block_set K5.out 1 (.slice (some ⟨b1, 0, none⟩) m k))
  have K7 := hid (show (w3.setCell ⟨bq, 1, none⟩ (.slice (some ⟨b1, 0, none⟩) m k)).heap[w.heap.size]? = _ from (Kp.set (T := fun b => b = bq) (w := w3) (i := 1) rfl (.slice (some ⟨b1, 0, none⟩) m k)).blk K01.out (fun e => by have e' : w.heap.size = bq := e; omega))
  have HK6 : Hid (Kp (fun b => b = bq) w3 (w3.setCell ⟨bq, 1, none⟩ (.slice (some ⟨b1, 0, none⟩) m k))) := Kp.set (T := fun b => b = bq) rfl _
  clear y5 x5 yn
  generalize w3.setCell ⟨bq, 1, none⟩ (.slice (some ⟨b1, 0, none⟩) m k) = w4 at *
  have y6 := block_cell K6.out
  have y7 := block_cell K7.out
  have x7 := block_frozen K7.out
  go_wp2
  have HK8 : Hid (Kp (fun b => b = w.heap.size) w4 ((w4.setCell ⟨w.heap.size, 0, none⟩ (.slice pc1 cs.length cc1)).setCell ⟨w.heap.size, 1, none⟩ (.slice (some ⟨b1, 0, none⟩) m k))) := (Kp.set (T := fun b => b = w.heap.size) rfl _).trans (Kp.set (T := fun b => b = w.heap.size) rfl _)
  have KF := block_set (block_set K7.out 0 (.slice pc1 cs.length cc1)) 1 (.slice (some ⟨b1, 0, none⟩) m k)
  clear y6 y7 x7
  generalize ((w4.setCell ⟨w.heap.size, 0, none⟩ (.slice pc1 cs.length cc1)).setCell ⟨w.heap.size, 1, none⟩ (.slice (some ⟨b1, 0, none⟩) m k)) = WF at *
  have hkall : Kp (fun b => b = b1 ∨ b = bq ∨ b = w.heap.size) W2 WF := ((HK3.out.imp (fun _ _ e => Or.inl e)).trans (HK6.out.imp (fun _ _ e => Or.inr (Or.inl e)))).trans (HK8.out.imp (fun _ _ e => Or.inr (Or.inr e)))
  refine bodyPost_ret (v := .agg #[.slice pc1 cs.length cc1, .slice (some ⟨b1, 0, none⟩) m k]) ?hv rfl ⟨_, rfl, ?ht, ?hb⟩
  case hv =>
    have kcf := block_cell KF
    clear KF
    simp [results, Try.results59, go_sem, kcf]
  case hb => exact HB2.out.trans (hkall.below hW2s (fun b e => by rcases e with e | e | e <;> omega))
  case ht =>
    refine ⟨_, _, rfl, ?_, ?_⟩
    · refine (colsKp HC1.out hkall (fun b hb e => ?_)).imp (fun _ _ => trivial)
      have hb1 := hb.1
      rcases e with e | e | e
      · have := hb.2; omega
      · have := hb.2; omega
      · omega
    · have hRf : SS.Rf (TN.encH hs1) b1 k g WF := (HR1.out.kp HK6.out (fun e => by have e' : b1 = bq := e; omega)).kp HK8.out (fun e => by have e' : b1 = w.heap.size := e; omega)
      have hhF : TN.HeadsIn (fun b => b1 < b ∧ b < bq) WF hs1 S := headsKp HH2.out hkall (fun b hb e => by have h1 := hb.1; have h2 := hb.2; omega)
      have := rf_tab HSu.out hhF hRf HKk.out HR2.out HR3.out (m := m) (by omega) hsz
      rw [HTop.out] at this
      have e : (topL p rs).take m = (topL p rs).take n := by
        have hl : (topL p rs).length = k := by rw [← HTop.out, topL_length]; exact HKk.out
        by_cases hnk : n ≤ k
        · rw [show m = n by omega]
        · rw [show m = k by omega, List.take_of_length_le (by omega), List.take_of_length_le (by omega)]
      rwa [e] at this
end Go.Proofs.Ytcidijjbcebcbaa.RO
namespace Go.Proofs.Ytcidijjbcebcbaa.RO
open Go.RowKit Go.Joins Go.Sort

theorem tabE_set {b : Bool} {w w2 w3 : World} {v x y : Value} {cs : List TN.Cl} {rs : List TN.Rw} {R : Nat} (h : TabE b w2 w3 v cs rs) (hR : R < w2.heap.size) (hw : w.heap.size ≤ w2.heap.size) : TabE b w ((w3.setCell ⟨R, 0, none⟩ x).setCell ⟨R, 1, none⟩ y) v cs rs :=
  (TN.TabIn.set (fun b hb => by have : w2.heap.size ≤ b := hb; omega) (TN.TabIn.set (fun b hb => by have : w2.heap.size ≤ b := hb; omega) h)).imp (fun b hb => by have : w2.heap.size ≤ b := hb; omega)
theorem tabE_form {b : Bool} {w w' : World} {v : Value} {cs : List TN.Cl} {rs : List TN.Rw} (h : TabE b w w' v cs rs) : ∃ pc nc cc pr nr cr, v = .agg #[.slice pc nc cc, .slice pr nr cr] := by
  obtain ⟨c, r, rfl, ⟨p, cap, rfl, -⟩, hs, ⟨q, cq, rfl, -⟩, -⟩ := h
  exact ⟨_, _, _, _, _, _, rfl⟩
theorem enters_top1 : ∀ args w, (callFunc 59 args).run Try.prog w = .ok (.enter 59 args) w := enters_of Try.func59 (by kernel_rfl) rfl
def kdOf (cs : List TN.Cl) (i : Int) : Int := (cs.getD i.toNat default).kd
def topB (cs : List TN.Cl) (n : Int) (nm : ByteArray) : Bool := decide (1 ≤ n ∧ n ≤ 1000 ∧ 0 ≤ TN.findC cs nm ∧ kdOf cs (TN.findC cs nm) ≠ 4)
set_option maxRecDepth 100000 in
set_option maxHeartbeats 4000000 in
theorem top_any {tv : Value} {cs : List TN.Cl} {rs : List TN.Rw} {n : Int} {nm : ByteArray} {w : World} (ht : TN.TabAt w tv cs rs) (hrl : rs.length ≤ 1000000) : Calls Try.prog 30 #[tv, .int .i64 n, .string nm] w fun e w' => ∃ v', e = .returned (.tuple #[v', .int .i64 (runE cs rs (topB cs n nm))]) ∧ TabE (okE cs rs (topB cs n nm)) w w' v' cs (topR (TN.findC cs nm).toNat n.toNat rs) ∧ Below w.heap.size w w' := by
  obtain ⟨c, rv, rfl, hc, hs, hr, hh⟩ := ht
  have HT := hid (show TN.TabAt w (.agg #[c, rv]) cs rs from ⟨c, rv, rfl, hc, hs, hr, hh⟩)
  have HC := hid hc
  obtain ⟨pc, cc, rfl, -⟩ := id hc
  obtain ⟨pr, cr, rfl, -⟩ := id hr
  clear hc hr hh
  generalize hncs : cs.length = nc at *
  generalize hs.length = nr at *
  have HNC := hid hncs
  obtain ⟨O0, hO0⟩ : ∃ O, O = Obj.cells #[.slice pc nc cc, .slice pr nr cr] 28 (0, 0) := ⟨_, rfl⟩
  obtain ⟨O1, hO1⟩ : ∃ O, O = Obj.cells #[.int .i64 n] 3 (0, 0) := ⟨_, rfl⟩
  obtain ⟨O2, hO2⟩ : ∃ O, O = Obj.cells #[.slice none 0 0, .slice none 0 0] 28 (0, 0) := ⟨_, rfl⟩
  have hb1 : Below w.heap.size w (w.alloc O0) := (Below.refl _ _).alloc (Nat.le_refl _) _
  have hb2 : Below w.heap.size w ((w.alloc O0).alloc O1) := hb1.alloc hb1.size _
  have hb3 : Below w.heap.size w (((w.alloc O0).alloc O1).alloc O2) := hb2.alloc hb2.size _
  have k0 := block_on (block_on (alloc_block w O0) ((Below.refl _ _).alloc (Nat.le_refl _) O1)) ((Below.refl _ _).alloc (Nat.le_refl _) O2)
  have k1 := block_on (TN.alloc_blk2 w O0 O1) ((Below.refl _ _).alloc (Nat.le_refl _) O2)
  have k2 : (((w.alloc O0).alloc O1).alloc O2).heap[w.heap.size + 1 + 1]? = some O2 := by have := alloc_block ((w.alloc O0).alloc O1) O2; simpa using this
  obtain ⟨W, hW⟩ : ∃ W, W = ((w.alloc O0).alloc O1).alloc O2 := ⟨_, rfl⟩
  rw [← hW] at hb3 k0 k1 k2
  rw [hO0] at k0
  rw [hO1] at k1
  rw [hO2] at k2
  have HW := hid hW
  rw [hO0, hO1, hO2] at HW
  have HB := hid hb3
  have K0 := hid k0
  have K1 := hid k1
  have K2 := hid k2
  have y0 := block_cell k0
  clear hW hO0 hO1 hO2 hb1 hb2 hb3 k0 k1 k2 hncs
  go_enter Try.func30, Try.ntmps30
  go_upto_region 1 with fail
  rw [← HW.out]
  clear HW
  go_upto_region 2 with (first | (go_at_call 57; refine (TN.find_any (HC.out.on HB.out)).mono ?_; rintro e w1 ⟨rfl, hb1⟩; have HB1 := hid hb1; clear hb1))
  have hb2 : Below w1.heap.size w1 (w1.alloc (.cells #[.int .i64 (TN.findC cs nm)] 3)) := (Below.refl _ _).alloc (Nat.le_refl _) _
  have k3 := alloc_block w1 (.cells #[.int .i64 (TN.findC cs nm)] 3)
  have HB2 := hid (TN.below_on (TN.below_on HB.out HB1.out) hb2)
  have K02 := hid (block_on (block_on K0.out HB1.out) hb2)
  have K12 := hid (block_on (block_on K1.out HB1.out) hb2)
  have K22 := hid (block_on (block_on K2.out HB1.out) hb2)
  have K32 := hid k3
  have hR2 := lt_of_block K22.out
  have hW2 := HB2.out.size
  obtain ⟨ba, hba⟩ : ∃ b, b = w1.heap.size := ⟨_, rfl⟩
  rw [← hba] at hb2 k3 K32
  rw [← hba]
  have HZl := hid (TN.findC_lt cs nm)
  generalize w1.alloc (.cells #[.int .i64 (TN.findC cs nm)] 3) = w2 at *
  have HTB2 : Hid (topB cs n nm = decide (1 ≤ n ∧ n ≤ 1000 ∧ 0 ≤ TN.findC cs nm ∧ kdOf cs (TN.findC cs nm) ≠ 4)) := rfl
  generalize hz : TN.findC cs nm = z at *
  have HZE := hid hz
  have y02 := block_cell K02.out
  have y12 := block_cell K12.out
  have y32 := block_cell K32.out
  have HCo := hid (HC.out.on HB2.out)
  clear y0 hb2 k3 hba hz
  by_cases c1 : 1 ≤ n
  case neg =>
    have d1 : decide (1 ≤ n) = false := decide_eq_false c1
    have hB : topB cs n nm = false := by rw [HTB2.out]; exact decide_eq_false (fun h => c1 h.1)
    have HRn := hid (run_any (mb := false) (cs' := cs) (rs' := (topL z.toNat rs).take n.toNat) (cb := #[.pointer (some ⟨w.heap.size, 0, none⟩), .pointer (some ⟨ba, 0, none⟩), .pointer (some ⟨w.heap.size + 1, 0, none⟩)]) (g := 59) (HT.out.on HB2.out) enters_top1 (fun h => by cases h))
    have HBB := hid hB
    clear hB
    go_wp2_with (first | (go_at_call 58; refine HRn.out.mono ?_; rintro e w3 ⟨v3, rfl, ht3, hb3⟩; have HT3 := hid ht3; have HB3 := hid hb3; have K23 := hid (block_on K22.out hb3); have y23 := block_cell K23.out; have x23 := block_frozen K23.out; obtain ⟨pc3, n3, cc3, pr3, m3, cr3, rfl⟩ := tabE_form ht3; clear ht3 hb3))
    refine bodyPost_ret (v := .tuple #[.agg #[.slice pc3 n3 cc3, .slice pr3 m3 cr3], .int .i64 (runE cs rs false)]) ?hv1 rfl ⟨_, by rw [HBB.out], by rw [HBB.out, HZE.out]; exact tabE_set HT3.out hR2 hW2, TN.below_set (TN.below_set (TN.below_on HB2.out HB3.out) (by omega)) (by omega)⟩
    case hv1 =>
      have KF := block_set (block_set K23.out 0 (.slice pc3 n3 cc3)) 1 (.slice pr3 m3 cr3)
      clear y23 x23
      generalize ((w3.setCell ⟨w.heap.size + 1 + 1, 0, none⟩ (.slice pc3 n3 cc3)).setCell ⟨w.heap.size + 1 + 1, 1, none⟩ (.slice pr3 m3 cr3)) = WF at KF ⊢
      have kcf := block_cell KF
      clear KF
      simp [results, Try.results30, go_sem, kcf]
  by_cases c2 : n ≤ 1000
  case neg =>
    have d1 : decide (1 ≤ n) = true := decide_eq_true c1
    have d2 : decide (n ≤ 1000) = false := decide_eq_false c2
    have hB : topB cs n nm = false := by rw [HTB2.out]; exact decide_eq_false (fun h => c2 h.2.1)
    have HRn := hid (run_any (mb := false) (cs' := cs) (rs' := (topL z.toNat rs).take n.toNat) (cb := #[.pointer (some ⟨w.heap.size, 0, none⟩), .pointer (some ⟨ba, 0, none⟩), .pointer (some ⟨w.heap.size + 1, 0, none⟩)]) (g := 59) (HT.out.on HB2.out) enters_top1 (fun h => by cases h))
    have HBB := hid hB
    clear hB
    go_wp2_with (first | (go_at_call 58; refine HRn.out.mono ?_; rintro e w3 ⟨v3, rfl, ht3, hb3⟩; have HT3 := hid ht3; have HB3 := hid hb3; have K23 := hid (block_on K22.out hb3); have y23 := block_cell K23.out; have x23 := block_frozen K23.out; obtain ⟨pc3, n3, cc3, pr3, m3, cr3, rfl⟩ := tabE_form ht3; clear ht3 hb3))
    refine bodyPost_ret (v := .tuple #[.agg #[.slice pc3 n3 cc3, .slice pr3 m3 cr3], .int .i64 (runE cs rs false)]) ?hv2 rfl ⟨_, by rw [HBB.out], by rw [HBB.out, HZE.out]; exact tabE_set HT3.out hR2 hW2, TN.below_set (TN.below_set (TN.below_on HB2.out HB3.out) (by omega)) (by omega)⟩
    case hv2 =>
      have KF := block_set (block_set K23.out 0 (.slice pc3 n3 cc3)) 1 (.slice pr3 m3 cr3)
      clear y23 x23
      generalize ((w3.setCell ⟨w.heap.size + 1 + 1, 0, none⟩ (.slice pc3 n3 cc3)).setCell ⟨w.heap.size + 1 + 1, 1, none⟩ (.slice pr3 m3 cr3)) = WF at KF ⊢
      have kcf := block_cell KF
      clear KF
      simp [results, Try.results30, go_sem, kcf]
  by_cases c3 : 0 ≤ z
  case neg =>
    have d1 : decide (1 ≤ n) = true := decide_eq_true c1
    have d2 : decide (n ≤ 1000) = true := decide_eq_true c2
    have d3 : decide (0 ≤ z) = false := decide_eq_false c3
    have hB : topB cs n nm = false := by rw [HTB2.out]; exact decide_eq_false (fun h => c3 h.2.2.1)
    have HRn := hid (run_any (mb := false) (cs' := cs) (rs' := (topL z.toNat rs).take n.toNat) (cb := #[.pointer (some ⟨w.heap.size, 0, none⟩), .pointer (some ⟨ba, 0, none⟩), .pointer (some ⟨w.heap.size + 1, 0, none⟩)]) (g := 59) (HT.out.on HB2.out) enters_top1 (fun h => by cases h))
    have HBB := hid hB
    clear hB
    go_wp2_with (first | (go_at_call 58; refine HRn.out.mono ?_; rintro e w3 ⟨v3, rfl, ht3, hb3⟩; have HT3 := hid ht3; have HB3 := hid hb3; have K23 := hid (block_on K22.out hb3); have y23 := block_cell K23.out; have x23 := block_frozen K23.out; obtain ⟨pc3, n3, cc3, pr3, m3, cr3, rfl⟩ := tabE_form ht3; clear ht3 hb3))
    refine bodyPost_ret (v := .tuple #[.agg #[.slice pc3 n3 cc3, .slice pr3 m3 cr3], .int .i64 (runE cs rs false)]) ?hv3 rfl ⟨_, by rw [HBB.out], by rw [HBB.out, HZE.out]; exact tabE_set HT3.out hR2 hW2, TN.below_set (TN.below_set (TN.below_on HB2.out HB3.out) (by omega)) (by omega)⟩
    case hv3 =>
      have KF := block_set (block_set K23.out 0 (.slice pc3 n3 cc3)) 1 (.slice pr3 m3 cr3)
      clear y23 x23
      generalize ((w3.setCell ⟨w.heap.size + 1 + 1, 0, none⟩ (.slice pc3 n3 cc3)).setCell ⟨w.heap.size + 1 + 1, 1, none⟩ (.slice pr3 m3 cr3)) = WF at KF ⊢
      have kcf := block_cell KF
      clear KF
      simp [results, Try.results30, go_sem, kcf]
  have d1 : decide (1 ≤ n) = true := decide_eq_true c1
  have d2 : decide (n ≤ 1000) = true := decide_eq_true c2
  have d3 : decide (0 ≤ z) = true := decide_eq_true c3
  obtain ⟨p, hp⟩ : ∃ p : Nat, z = p := ⟨z.toNat, by omega⟩
  have HPz := hid hp
  have hpl : p < cs.length := by have := HZl.out; omega
  have hpn : (p : Int) < nc := by have := HNC.out; omega
  obtain ⟨bc, oc, rfl, cell1⟩ : ∃ b o, pc = some ⟨b, o, none⟩ ∧ w2.cell? ⟨b, o + p * 2 + 1, none⟩ = some (.int .i64 (kdOf cs z)) := by
    obtain ⟨p', c', e', -, -, hx⟩ := HCo.out
    obtain ⟨b, o, hpp, -, hj⟩ := hx (by intro e; rw [e] at hpl; simp at hpl)
    subst hpp
    cases e'
    refine ⟨b, o, rfl, ?_⟩
    have := (TN.col_cells (hj p cs[p] (List.getElem?_eq_getElem hpl))).2
    unfold kdOf
    rw [HPz.out, Int.toNat_natCast, List.getD_eq_getElem?_getD, List.getElem?_eq_getElem hpl]
    exact this
  have ncI : (nc : Int) ≤ 9223372036854775807 := by
    obtain ⟨p', c', e', -, hm, -⟩ := HCo.out
    have := HNC.out
    unfold maxLen at hm
    omega
  obtain ⟨m, hm⟩ : ∃ m : Nat, n = m := ⟨n.toNat, by omega⟩
  subst hp
  have p0 : (0 : Int) ≤ p := by omega
  generalize kdOf cs p = kd at *
  by_cases c4 : kd = 4
  case pos =>
    have c4b : (kd != 4) = false := by simp [c4]
    have hB0 := HTB2.out
    have hB : topB cs n nm = false := by rw [hB0]; exact decide_eq_false (fun h => h.2.2.2 c4)
    have HRn := hid (run_any (mb := false) (cs' := cs) (rs' := (topL (p : Int).toNat rs).take n.toNat) (cb := #[.pointer (some ⟨w.heap.size, 0, none⟩), .pointer (some ⟨ba, 0, none⟩), .pointer (some ⟨w.heap.size + 1, 0, none⟩)]) (g := 59) (HT.out.on HB2.out) enters_top1 (fun h => by cases h))
    have HBB := hid hB
    clear hB
    go_wp2_with (first | (go_at_call 58; refine HRn.out.mono ?_; rintro e w3 ⟨v3, rfl, ht3, hb3⟩; have HT3 := hid ht3; have HB3 := hid hb3; have K23 := hid (block_on K22.out hb3); have y23 := block_cell K23.out; have x23 := block_frozen K23.out; obtain ⟨pc3, n3, cc3, pr3, m3, cr3, rfl⟩ := tabE_form ht3; clear ht3 hb3))
    refine bodyPost_ret (v := .tuple #[.agg #[.slice pc3 n3 cc3, .slice pr3 m3 cr3], .int .i64 (runE cs rs false)]) ?hv4 rfl ⟨_, by rw [HBB.out], by rw [HBB.out, HZE.out]; exact tabE_set HT3.out hR2 hW2, TN.below_set (TN.below_set (TN.below_on HB2.out HB3.out) (by omega)) (by omega)⟩
    case hv4 =>
      have KF := block_set (block_set K23.out 0 (.slice pc3 n3 cc3)) 1 (.slice pr3 m3 cr3)
      clear y23 x23
      generalize ((w3.setCell ⟨w.heap.size + 1 + 1, 0, none⟩ (.slice pc3 n3 cc3)).setCell ⟨w.heap.size + 1 + 1, 1, none⟩ (.slice pr3 m3 cr3)) = WF at KF ⊢
      have kcf := block_cell KF
      clear KF
      simp [results, Try.results30, go_sem, kcf]
  case neg =>
    have c4b : (kd != 4) = true := by simp [c4]
    have hB0 := HTB2.out
    subst hm
    have hB : topB cs m nm = true := by rw [hB0]; exact decide_eq_true ⟨c1, c2, p0, c4⟩
    have HRn := hid (run_any (mb := true) (cs' := cs) (rs' := (topL (p : Int).toNat rs).take (m : Int).toNat) (cb := #[.pointer (some ⟨w.heap.size, 0, none⟩), .pointer (some ⟨ba, 0, none⟩), .pointer (some ⟨w.heap.size + 1, 0, none⟩)]) (g := 59) (HT.out.on HB2.out) enters_top1 (fun _ hck W hbW => top1_any (p := p) (n := m) (HT.out.on (TN.below_on HB2.out hbW)) (block_cell (block_on K02.out hbW) 0) (block_cell (block_on K02.out hbW) 1) (block_cell (block_on K32.out hbW) 0) (block_cell (block_on K12.out hbW) 0) (fun r hr => by obtain ⟨q1, q2⟩ := rows_len hck; have := q2 r hr; omega) hrl))
    have HBB := hid hB
    clear hB
    go_wp2_with (first | (go_at_call 58; refine HRn.out.mono ?_; rintro e w3 ⟨v3, rfl, ht3, hb3⟩; have HT3 := hid ht3; have HB3 := hid hb3; have K23 := hid (block_on K22.out hb3); have y23 := block_cell K23.out; have x23 := block_frozen K23.out; obtain ⟨pc3, n3, cc3, pr3, m3, cr3, rfl⟩ := tabE_form ht3; clear ht3 hb3))
    refine bodyPost_ret (v := .tuple #[.agg #[.slice pc3 n3 cc3, .slice pr3 m3 cr3], .int .i64 (runE cs rs true)]) ?hv5 rfl ⟨_, by rw [HBB.out], by rw [HBB.out, HZE.out]; exact tabE_set HT3.out hR2 hW2, TN.below_set (TN.below_set (TN.below_on HB2.out HB3.out) (by omega)) (by omega)⟩
    case hv5 =>
      have KF := block_set (block_set K23.out 0 (.slice pc3 n3 cc3)) 1 (.slice pr3 m3 cr3)
      clear y23 x23
      generalize ((w3.setCell ⟨w.heap.size + 1 + 1, 0, none⟩ (.slice pc3 n3 cc3)).setCell ⟨w.heap.size + 1 + 1, 1, none⟩ (.slice pr3 m3 cr3)) = WF at KF ⊢
      have kcf := block_cell KF
      clear KF
      simp [results, Try.results30, go_sem, kcf]
end Go.Proofs.Ytcidijjbcebcbaa.RO
namespace Go.Proofs.Ytcidijjbcebcbaa.RO
open Go.RowKit Go.Joins Go.Sort

/- A row whose place p is laid down to a multiple of a width. -/
def setN (p : Nat) (m : Int) (r : TN.Rw) : TN.Rw := r.set p { key p r with n := m }
def alR (p : Nat) (wd : Int) (r : TN.Rw) : TN.Rw := setN p (mulW (key p r).n wd) r
theorem own_parts {B e : Nat} {w : World} {v : Value} {r : TN.Rw} (h : TN.Own TN.Vl.cells 11 e B w v r) (hne : r ≠ []) : ∃ g c cur, v = .slice (some ⟨g, 0, none⟩) r.length c ∧ B ≤ g ∧ w.heap[g]? = some (.cells cur e (0, 0)) := by
  rcases h.2 with ⟨-, h0⟩ | ⟨g, cap, cur, hv, hg, hblk, hc, hm, hs, ht⟩
  · exact absurd (List.length_eq_zero_iff.1 h0) hne
  · exact ⟨g, cap, cur, hv, hg, hblk⟩
set_option maxHeartbeats 400000 in
theorem cloneOwn_any {u : Value} {r : TN.Rw} {w : World} (hu : TN.RowAt w u r) :
    Calls Try.prog 49 #[u] w fun e w' => ∃ v', e = .returned v' ∧ TN.Own TN.Vl.cells 11 39 w.heap.size w' v' r ∧ Below w.heap.size w w' := by
  have HU := hid hu
  obtain ⟨p, cap, rfl, hcap, hmax, hx⟩ := hu
  clear hcap hmax hx
  generalize List.length r = n at *
  have q22 : ∀ (w : World) (a : Option Addr) (n c n' c' : Nat), (binOp .eql 33 (.slice a n c) (.slice none n' c')).run Try.prog w = .ok (.bool a.isNone) w := fun w a n c n' c' => Lib.run_eql_slice_nil w _ _ a n c n' c' Try.underlying33
  cases p with
  | none =>
    have hn := TN.SlAt.empty HU.out
    subst hn
    go_enter Try.func49, Try.ntmps49
    go_wp2
    go_ret
    exact ⟨_, rfl, TN.Own.nil _ _ _ _ _, Below.refl _ _⟩
  | some ad =>
    go_enter Try.func49, Try.ntmps49
    go_wp2_with (at_builtin; refine TN.app_any TN.elem48 TN.vl_len (fun x _ => TN.vl_cells x) rfl _ _ rfl rfl (TN.Own.made TN.Vl.cells 11 39 w.heap.size w (Nat.le_refl _)) rfl (TN.SlAt.on HU.out ((Below.refl _ _).alloc (Nat.le_refl _) _)) (by simpa using TN.SlAt.bound HU.out) (by simp) ?_; intro v' w1 hown hb1)
    go_ret
    exact ⟨_, rfl, by rw [List.nil_append] at hown; exact hown, ((Below.refl _ _).alloc (Nat.le_refl _) _).trans hb1⟩
/- One value's number set in a row of one's own. -/
theorem row_set {w : World} {g n c p : Nat} {r : TN.Rw} {m : Int} (h : TN.RowIn (fun b => b = g) w (.slice (some ⟨g, 0, none⟩) n c) r) (hp : p < r.length) : TN.RowIn (fun b => b = g) (w.setCell ⟨g, p * 11 + 1, none⟩ (.int .i64 m)) (.slice (some ⟨g, 0, none⟩) n c) (setN p m r) := by
  obtain ⟨q, cap, e, hc, hm, hx⟩ := h
  cases e
  have hl : (setN p m r).length = r.length := by unfold setN; rw [List.length_set]
  have hr : r ≠ [] := by intro e; subst e; simp at hp
  obtain ⟨b, o, e2, hQ, hj⟩ := hx hr
  cases e2
  have h1 := hj p r[p] (List.getElem?_eq_getElem hp) 1 _ rfl
  refine ⟨_, _, by rw [hl], by rw [hl]; exact hc, by rw [hl]; exact hm, fun _ => ⟨g, 0, rfl, ⟨rfl, by rw [hl]; exact hQ.2⟩, fun j x hjx i u hu => ?_⟩⟩
  unfold setN at hjx
  rw [List.getElem?_set] at hjx
  by_cases e : p = j
  · subst e
    rw [if_pos rfl, if_pos hp] at hjx
    cases hjx
    have hk : key p r = r[p] := by unfold key; rw [List.getD_eq_getElem?_getD, List.getElem?_eq_getElem hp]; rfl
    rw [hk] at hu
    by_cases e1 : i = 1
    · subst e1
      have hu' : Value.int .i64 m = u := by simpa [TN.Vl.cells] using hu
      subst hu'
      have := World.cell?_setCell_same w ⟨g, p * 11 + 1, none⟩ (.int .i64 m) (by simpa using h1)
      simpa using this
    · rw [World.cell?_setCell_other _ _ _ _ (by intro e'; simp only [Addr.mk.injEq] at e'; omega)]
      refine hj p r[p] (List.getElem?_eq_getElem hp) i u ?_
      match i, e1, hu with
      | 0, _, hu => exact hu
      | i + 2, _, hu => exact hu
  · rw [if_neg e] at hjx
    have hi : i < 11 := by have := (List.getElem?_eq_some_iff.1 hu).1; simpa [TN.Vl.cells] using this
    rw [World.cell?_setCell_other _ _ _ _ (by intro e'; simp only [Addr.mk.injEq] at e'; omega)]
    exact hj j x hjx i u hu
end Go.Proofs.Ytcidijjbcebcbaa.RO
