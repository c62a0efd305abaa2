/-
  What Top tells.
  A time laid down to a multiple of a width.
  Align's step: rows of one's own, their times laid down.
  Align's step, walked.
-/
import Derived.Test.YtcidijjbcebcbaaGreatKF02
import Derived.Test.YtcidijjbcebcbaaGreatKF13
import Derived.Test.YtcidijjbcebcbaaGreatKF25
import Derived.Laws.EntriesVeiled
namespace Go.Proofs.YtcidijjbcebcbaaGreat.RO
open Go.RowKit Go.Joins Go.Sort

theorem tabE_set {b : Bool} {w w2 w3 : World} {v x y : Value} {cs : List TN.Cl} {rs : List TN.Rw} {R : Nat} (h : TabE b w2 w3 v cs rs) (hR : R < w2.heap.size) (hw : w.heap.size ≤ w2.heap.size) : TabE b w ((w3.setCell ⟨R, 0, none⟩ x).setCell ⟨R, 1, none⟩ y) v cs rs :=
  (TN.TabIn.set (fun b hb => by have : w2.heap.size ≤ b := hb; omega) (TN.TabIn.set (fun b hb => by have : w2.heap.size ≤ b := hb; omega) h)).imp (fun b hb => by have : w2.heap.size ≤ b := hb; omega)
theorem tabE_form {b : Bool} {w w' : World} {v : Value} {cs : List TN.Cl} {rs : List TN.Rw} (h : TabE b w w' v cs rs) : ∃ pc nc cc pr nr cr, v = .agg #[.slice pc nc cc, .slice pr nr cr] := by
  obtain ⟨c, r, rfl, ⟨p, cap, rfl, -⟩, hs, ⟨q, cq, rfl, -⟩, -⟩ := h
  exact ⟨_, _, _, _, _, _, rfl⟩
theorem enters_top1 : ∀ args w, (callFunc 24 args).run Tryz.prog w = .ok (.enter 24 args) w := enters_of Tryz.func24 (by kernel_rfl) rfl
def kdOf (cs : List TN.Cl) (i : Int) : Int := (cs.getD i.toNat default).kd
def topB (cs : List TN.Cl) (n : Int) (nm : ByteArray) : Bool := decide (1 ≤ n ∧ n ≤ 1000 ∧ 0 ≤ TN.findC cs nm ∧ kdOf cs (TN.findC cs nm) ≠ 4)
set_option maxRecDepth 100000 in
set_option maxHeartbeats 4000000 in
theorem top_any {tv : Value} {cs : List TN.Cl} {rs : List TN.Rw} {n : Int} {nm : ByteArray} {w : World} (ht : TN.TabAt w tv cs rs) (hrl : rs.length ≤ 1000000) : Calls Tryz.prog 11 #[tv, .int .i64 n, .string nm] w fun e w' => ∃ v', e = .returned (.tuple #[v', .int .i64 (runE cs rs (topB cs n nm))]) ∧ TabE (okE cs rs (topB cs n nm)) w w' v' cs (topR (TN.findC cs nm).toNat n.toNat rs) ∧ Below w.heap.size w w' := by
  obtain ⟨c, rv, rfl, hc, hs, hr, hh⟩ := ht
  have HT := hid (show TN.TabAt w (.agg #[c, rv]) cs rs from ⟨c, rv, rfl, hc, hs, hr, hh⟩)
  have HC := hid hc
  obtain ⟨pc, cc, rfl, -⟩ := id hc
  obtain ⟨pr, cr, rfl, -⟩ := id hr
  clear hc hr hh
  generalize hncs : cs.length = nc at *
  generalize hs.length = nr at *
  have HNC := hid hncs
  obtain ⟨O0, hO0⟩ : ∃ O, O = Obj.cells #[.slice pc nc cc, .slice pr nr cr] 25 (0, 0) := ⟨_, rfl⟩
  obtain ⟨O1, hO1⟩ : ∃ O, O = Obj.cells #[.int .i64 n] 3 (0, 0) := ⟨_, rfl⟩
  obtain ⟨O2, hO2⟩ : ∃ O, O = Obj.cells #[.slice none 0 0, .slice none 0 0] 25 (0, 0) := ⟨_, rfl⟩
  have hb1 : Below w.heap.size w (w.alloc O0) := (Below.refl _ _).alloc (Nat.le_refl _) _
  have hb2 : Below w.heap.size w ((w.alloc O0).alloc O1) := hb1.alloc hb1.size _
  have hb3 : Below w.heap.size w (((w.alloc O0).alloc O1).alloc O2) := hb2.alloc hb2.size _
  have k0 := block_on (block_on (alloc_block w O0) ((Below.refl _ _).alloc (Nat.le_refl _) O1)) ((Below.refl _ _).alloc (Nat.le_refl _) O2)
  have k1 := block_on (TN.alloc_blk2 w O0 O1) ((Below.refl _ _).alloc (Nat.le_refl _) O2)
  have k2 : (((w.alloc O0).alloc O1).alloc O2).heap[w.heap.size + 1 + 1]? = some O2 := by have := alloc_block ((w.alloc O0).alloc O1) O2; simpa using this
  obtain ⟨W, hW⟩ : ∃ W, W = ((w.alloc O0).alloc O1).alloc O2 := ⟨_, rfl⟩
  rw [← hW] at hb3 k0 k1 k2
  rw [hO0] at k0
  rw [hO1] at k1
  rw [hO2] at k2
  have HW := hid hW
  rw [hO0, hO1, hO2] at HW
  have HB := hid hb3
  have K0 := hid k0
  have K1 := hid k1
  have K2 := hid k2
  have y0 := block_cell k0
  clear hW hO0 hO1 hO2 hb1 hb2 hb3 k0 k1 k2 hncs
  go_enter Tryz.func11, Tryz.ntmps11
  go_upto_region 1 with fail
  rw [← HW.out]
  clear HW
  go_upto_region 2 with (first | (go_at_call 20; refine (TN.find_any (HC.out.on HB.out)).mono ?_; rintro e w1 ⟨rfl, hb1⟩; have HB1 := hid hb1; clear hb1))
  have hb2 : Below w1.heap.size w1 (w1.alloc (.cells #[.int .i64 (TN.findC cs nm)] 3)) := (Below.refl _ _).alloc (Nat.le_refl _) _
  have k3 := alloc_block w1 (.cells #[.int .i64 (TN.findC cs nm)] 3)
  have HB2 := hid (TN.below_on (TN.below_on HB.out HB1.out) hb2)
  have K02 := hid (block_on (block_on K0.out HB1.out) hb2)
  have K12 := hid (block_on (block_on K1.out HB1.out) hb2)
  have K22 := hid (block_on (block_on K2.out HB1.out) hb2)
  have K32 := hid k3
  have hR2 := lt_of_block K22.out
  have hW2 := HB2.out.size
  obtain ⟨ba, hba⟩ : ∃ b, b = w1.heap.size := ⟨_, rfl⟩
  rw [← hba] at hb2 k3 K32
  rw [← hba]
  have HZl := hid (TN.findC_lt cs nm)
  generalize w1.alloc (.cells #[.int .i64 (TN.findC cs nm)] 3) = w2 at *
  have HTB2 : Hid (topB cs n nm = decide (1 ≤ n ∧ n ≤ 1000 ∧ 0 ≤ TN.findC cs nm ∧ kdOf cs (TN.findC cs nm) ≠ 4)) := rfl
  generalize hz : TN.findC cs nm = z at *
  have HZE := hid hz
  have y02 := block_cell K02.out
  have y12 := block_cell K12.out
  have y32 := block_cell K32.out
  have HCo := hid (HC.out.on HB2.out)
  clear y0 hb2 k3 hba hz
  by_cases c1 : 1 ≤ n
  case neg =>
    have d1 : decide (1 ≤ n) = false := decide_eq_false c1
    have hB : topB cs n nm = false := by rw [HTB2.out]; exact decide_eq_false (fun h => c1 h.1)
    have HRn := hid (run_any (mb := false) (cs' := cs) (rs' := (topL z.toNat rs).take n.toNat) (cb := #[.pointer (some ⟨w.heap.size, 0, none⟩), .pointer (some ⟨ba, 0, none⟩), .pointer (some ⟨w.heap.size + 1, 0, none⟩)]) (g := 24) (HT.out.on HB2.out) enters_top1 (fun h => by cases h))
    have HBB := hid hB
    clear hB
    go_wp2_with (first | (go_at_call 12; refine HRn.out.mono ?_; rintro e w3 ⟨v3, rfl, ht3, hb3⟩; have HT3 := hid ht3; have HB3 := hid hb3; have K23 := hid (block_on K22.out hb3); have y23 := block_cell K23.out; have x23 := block_frozen K23.out; obtain ⟨pc3, n3, cc3, pr3, m3, cr3, rfl⟩ := tabE_form ht3; clear ht3 hb3))
    refine bodyPost_ret (v := .tuple #[.agg #[.slice pc3 n3 cc3, .slice pr3 m3 cr3], .int .i64 (runE cs rs false)]) ?hv1 rfl ⟨_, by rw [HBB.out], by rw [HBB.out, HZE.out]; exact tabE_set HT3.out hR2 hW2, TN.below_set (TN.below_set (TN.below_on HB2.out HB3.out) (by omega)) (by omega)⟩
    case hv1 =>
      have KF := block_set (block_set K23.out 0 (.slice pc3 n3 cc3)) 1 (.slice pr3 m3 cr3)
      clear y23 x23
      generalize ((w3.setCell ⟨w.heap.size + 1 + 1, 0, none⟩ (.slice pc3 n3 cc3)).setCell ⟨w.heap.size + 1 + 1, 1, none⟩ (.slice pr3 m3 cr3)) = WF at KF ⊢
      have kcf := block_cell KF
      clear KF
      simp [results, Tryz.results11, go_sem, kcf]
  by_cases c2 : n ≤ 1000
  case neg =>
    have d1 : decide (1 ≤ n) = true := decide_eq_true c1
    have d2 : decide (n ≤ 1000) = false := decide_eq_false c2
    have hB : topB cs n nm = false := by rw [HTB2.out]; exact decide_eq_false (fun h => c2 h.2.1)
    have HRn := hid (run_any (mb := false) (cs' := cs) (rs' := (topL z.toNat rs).take n.toNat) (cb := #[.pointer (some ⟨w.heap.size, 0, none⟩), .pointer (some ⟨ba, 0, none⟩), .pointer (some ⟨w.heap.size + 1, 0, none⟩)]) (g := 24) (HT.out.on HB2.out) enters_top1 (fun h => by cases h))
    have HBB := hid hB
    clear hB
    go_wp2_with (first | (go_at_call 12; refine HRn.out.mono ?_; rintro e w3 ⟨v3, rfl, ht3, hb3⟩; have HT3 := hid ht3; have HB3 := hid hb3; have K23 := hid (block_on K22.out hb3); have y23 := block_cell K23.out; have x23 := block_frozen K23.out; obtain ⟨pc3, n3, cc3, pr3, m3, cr3, rfl⟩ := tabE_form ht3; clear ht3 hb3))
    refine bodyPost_ret (v := .tuple #[.agg #[.slice pc3 n3 cc3, .slice pr3 m3 cr3], .int .i64 (runE cs rs false)]) ?hv2 rfl ⟨_, by rw [HBB.out], by rw [HBB.out, HZE.out]; exact tabE_set HT3.out hR2 hW2, TN.below_set (TN.below_set (TN.below_on HB2.out HB3.out) (by omega)) (by omega)⟩
    case hv2 =>
      have KF := block_set (block_set K23.out 0 (.slice pc3 n3 cc3)) 1 (.slice pr3 m3 cr3)
      clear y23 x23
      generalize ((w3.setCell ⟨w.heap.size + 1 + 1, 0, none⟩ (.slice pc3 n3 cc3)).setCell ⟨w.heap.size + 1 + 1, 1, none⟩ (.slice pr3 m3 cr3)) = WF at KF ⊢
      have kcf := block_cell KF
      clear KF
      simp [results, Tryz.results11, go_sem, kcf]
  by_cases c3 : 0 ≤ z
  case neg =>
    have d1 : decide (1 ≤ n) = true := decide_eq_true c1
    have d2 : decide (n ≤ 1000) = true := decide_eq_true c2
    have d3 : decide (0 ≤ z) = false := decide_eq_false c3
    have hB : topB cs n nm = false := by rw [HTB2.out]; exact decide_eq_false (fun h => c3 h.2.2.1)
    have HRn := hid (run_any (mb := false) (cs' := cs) (rs' := (topL z.toNat rs).take n.toNat) (cb := #[.pointer (some ⟨w.heap.size, 0, none⟩), .pointer (some ⟨ba, 0, none⟩), .pointer (some ⟨w.heap.size + 1, 0, none⟩)]) (g := 24) (HT.out.on HB2.out) enters_top1 (fun h => by cases h))
    have HBB := hid hB
    clear hB
    go_wp2_with (first | (go_at_call 12; refine HRn.out.mono ?_; rintro e w3 ⟨v3, rfl, ht3, hb3⟩; have HT3 := hid ht3; have HB3 := hid hb3; have K23 := hid (block_on K22.out hb3); have y23 := block_cell K23.out; have x23 := block_frozen K23.out; obtain ⟨pc3, n3, cc3, pr3, m3, cr3, rfl⟩ := tabE_form ht3; clear ht3 hb3))
    refine bodyPost_ret (v := .tuple #[.agg #[.slice pc3 n3 cc3, .slice pr3 m3 cr3], .int .i64 (runE cs rs false)]) ?hv3 rfl ⟨_, by rw [HBB.out], by rw [HBB.out, HZE.out]; exact tabE_set HT3.out hR2 hW2, TN.below_set (TN.below_set (TN.below_on HB2.out HB3.out) (by omega)) (by omega)⟩
    case hv3 =>
      have KF := block_set (block_set K23.out 0 (.slice pc3 n3 cc3)) 1 (.slice pr3 m3 cr3)
      clear y23 x23
      generalize ((w3.setCell ⟨w.heap.size + 1 + 1, 0, none⟩ (.slice pc3 n3 cc3)).setCell ⟨w.heap.size + 1 + 1, 1, none⟩ (.slice pr3 m3 cr3)) = WF at KF ⊢
      have kcf := block_cell KF
      clear KF
      simp [results, Tryz.results11, go_sem, kcf]
  have d1 : decide (1 ≤ n) = true := decide_eq_true c1
  have d2 : decide (n ≤ 1000) = true := decide_eq_true c2
  have d3 : decide (0 ≤ z) = true := decide_eq_true c3
  obtain ⟨p, hp⟩ : ∃ p : Nat, z = p := ⟨z.toNat, by omega⟩
  have HPz := hid hp
  have hpl : p < cs.length := by have := HZl.out; omega
  have hpn : (p : Int) < nc := by have := HNC.out; omega
  obtain ⟨bc, oc, rfl, cell1⟩ : ∃ b o, pc = some ⟨b, o, none⟩ ∧ w2.cell? ⟨b, o + p * 2 + 1, none⟩ = some (.int .i64 (kdOf cs z)) := by
    obtain ⟨p', c', e', -, -, hx⟩ := HCo.out
    obtain ⟨b, o, hpp, -, hj⟩ := hx (by intro e; rw [e] at hpl; simp at hpl)
    subst hpp
    cases e'
    refine ⟨b, o, rfl, ?_⟩
    have := (TN.col_cells (hj p cs[p] (List.getElem?_eq_getElem hpl))).2
    unfold kdOf
    rw [HPz.out, Int.toNat_natCast, List.getD_eq_getElem?_getD, List.getElem?_eq_getElem hpl]
    exact this
  have ncI : (nc : Int) ≤ 9223372036854775807 := by
    obtain ⟨p', c', e', -, hm, -⟩ := HCo.out
    have := HNC.out
    unfold maxLen at hm
    omega
  obtain ⟨m, hm⟩ : ∃ m : Nat, n = m := ⟨n.toNat, by omega⟩
  subst hp
  have p0 : (0 : Int) ≤ p := by omega
  generalize kdOf cs p = kd at *
  by_cases c4 : kd = 4
  case pos =>
    have c4b : (kd != 4) = false := by simp [c4]
    have hB0 := HTB2.out
    have hB : topB cs n nm = false := by rw [hB0]; exact decide_eq_false (fun h => h.2.2.2 c4)
    have HRn := hid (run_any (mb := false) (cs' := cs) (rs' := (topL (p : Int).toNat rs).take n.toNat) (cb := #[.pointer (some ⟨w.heap.size, 0, none⟩), .pointer (some ⟨ba, 0, none⟩), .pointer (some ⟨w.heap.size + 1, 0, none⟩)]) (g := 24) (HT.out.on HB2.out) enters_top1 (fun h => by cases h))
    have HBB := hid hB
    clear hB
    go_wp2_with (first | (go_at_call 12; refine HRn.out.mono ?_; rintro e w3 ⟨v3, rfl, ht3, hb3⟩; have HT3 := hid ht3; have HB3 := hid hb3; have K23 := hid (block_on K22.out hb3); have y23 := block_cell K23.out; have x23 := block_frozen K23.out; obtain ⟨pc3, n3, cc3, pr3, m3, cr3, rfl⟩ := tabE_form ht3; clear ht3 hb3))
    refine bodyPost_ret (v := .tuple #[.agg #[.slice pc3 n3 cc3, .slice pr3 m3 cr3], .int .i64 (runE cs rs false)]) ?hv4 rfl ⟨_, by rw [HBB.out], by rw [HBB.out, HZE.out]; exact tabE_set HT3.out hR2 hW2, TN.below_set (TN.below_set (TN.below_on HB2.out HB3.out) (by omega)) (by omega)⟩
    case hv4 =>
      have KF := block_set (block_set K23.out 0 (.slice pc3 n3 cc3)) 1 (.slice pr3 m3 cr3)
      clear y23 x23
      generalize ((w3.setCell ⟨w.heap.size + 1 + 1, 0, none⟩ (.slice pc3 n3 cc3)).setCell ⟨w.heap.size + 1 + 1, 1, none⟩ (.slice pr3 m3 cr3)) = WF at KF ⊢
      have kcf := block_cell KF
      clear KF
      simp [results, Tryz.results11, go_sem, kcf]
  case neg =>
    have c4b : (kd != 4) = true := by simp [c4]
    have hB0 := HTB2.out
    subst hm
    have hB : topB cs m nm = true := by rw [hB0]; exact decide_eq_true ⟨c1, c2, p0, c4⟩
    have HRn := hid (run_any (mb := true) (cs' := cs) (rs' := (topL (p : Int).toNat rs).take (m : Int).toNat) (cb := #[.pointer (some ⟨w.heap.size, 0, none⟩), .pointer (some ⟨ba, 0, none⟩), .pointer (some ⟨w.heap.size + 1, 0, none⟩)]) (g := 24) (HT.out.on HB2.out) enters_top1 (fun _ hck W hbW => top1_any (p := p) (n := m) (HT.out.on (TN.below_on HB2.out hbW)) (block_cell (block_on K02.out hbW) 0) (block_cell (block_on K02.out hbW) 1) (block_cell (block_on K32.out hbW) 0) (block_cell (block_on K12.out hbW) 0) (fun r hr => by obtain ⟨q1, q2⟩ := rows_len hck; have := q2 r hr; omega) hrl))
    have HBB := hid hB
    clear hB
    go_wp2_with (first | (go_at_call 12; refine HRn.out.mono ?_; rintro e w3 ⟨v3, rfl, ht3, hb3⟩; have HT3 := hid ht3; have HB3 := hid hb3; have K23 := hid (block_on K22.out hb3); have y23 := block_cell K23.out; have x23 := block_frozen K23.out; obtain ⟨pc3, n3, cc3, pr3, m3, cr3, rfl⟩ := tabE_form ht3; clear ht3 hb3))
    refine bodyPost_ret (v := .tuple #[.agg #[.slice pc3 n3 cc3, .slice pr3 m3 cr3], .int .i64 (runE cs rs true)]) ?hv5 rfl ⟨_, by rw [HBB.out], by rw [HBB.out, HZE.out]; exact tabE_set HT3.out hR2 hW2, TN.below_set (TN.below_set (TN.below_on HB2.out HB3.out) (by omega)) (by omega)⟩
    case hv5 =>
      have KF := block_set (block_set K23.out 0 (.slice pc3 n3 cc3)) 1 (.slice pr3 m3 cr3)
      clear y23 x23
      generalize ((w3.setCell ⟨w.heap.size + 1 + 1, 0, none⟩ (.slice pc3 n3 cc3)).setCell ⟨w.heap.size + 1 + 1, 1, none⟩ (.slice pr3 m3 cr3)) = WF at KF ⊢
      have kcf := block_cell KF
      clear KF
      simp [results, Tryz.results11, go_sem, kcf]
end Go.Proofs.YtcidijjbcebcbaaGreat.RO
namespace Go.Proofs.YtcidijjbcebcbaaGreat.RO
open Go.RowKit Go.Joins

/- The greatest multiple of w that is not above n; n, where that lies below all numbers. -/
def mulW (n w : Int) : Int := if n < -9223372036854775808 + n % w then n else n - n % w
def InI (n : Int) : Prop := -9223372036854775808 ≤ n ∧ n ≤ 9223372036854775807
theorem tmod_or {n w : Int} (hw : 1 ≤ w) : n.tmod w = n % w ∨ (n.tmod w = n % w - w ∧ ¬ n % w = 0) := by
  have h5 := Int.tmod_eq_emod (a := n) (b := w)
  by_cases h : 0 ≤ n ∨ w ∣ n
  · rw [if_pos h] at h5; left; omega
  · rw [if_neg h] at h5
    right
    refine ⟨by omega, fun e => h (Or.inr (Int.dvd_of_emod_eq_zero e))⟩
theorem tmod_neg {n w : Int} (hw : 1 ≤ w) (h : n.tmod w < 0) : n % w = n.tmod w + w := by
  have h1 := Int.emod_nonneg n (show w ≠ 0 by omega)
  have h2 := tmod_or (n := n) hw
  omega
theorem tmod_pos {n w : Int} (hw : 1 ≤ w) (h : ¬ n.tmod w < 0) : n % w = n.tmod w := by
  have h1 := Int.emod_lt_of_pos n (show 0 < w by omega)
  have h2 := tmod_or (n := n) hw
  omega
theorem tmod_in {n w : Int} (hw : 1 ≤ w) : - w < n.tmod w ∧ n.tmod w < w := by
  have h1 := Int.emod_nonneg n (show w ≠ 0 by omega)
  have h3 := Int.emod_lt_of_pos n (show 0 < w by omega)
  have h2 := tmod_or (n := n) hw
  omega
set_option maxRecDepth 100000 in
set_option maxHeartbeats 2000000 in
theorem multiple_any {n w : Int} (hn : InI n) (hw : 1 ≤ w ∧ w ≤ 9223372036854775807) (wo : World) : Calls Tryz.prog 23 #[.int .i64 n, .int .i64 w] wo fun e w' => e = .returned (.int .i64 (mulW n w)) ∧ w' = wo := by
  obtain ⟨n1, n2⟩ := hn
  obtain ⟨w1, w2⟩ := hw
  have hw0 : ¬ w = 0 := by omega
  obtain ⟨t1, t2⟩ := tmod_in (n := n) w1
  obtain ⟨z, hz⟩ : ∃ z, z = mulW n w := ⟨_, rfl⟩
  rw [← hz]
  have HZ := hid hz
  clear hz
  by_cases h1 : n.tmod w < 0
  · have e1 := hid (tmod_neg w1 h1)
    obtain ⟨r, hr⟩ : ∃ r, n.tmod w + w = r := ⟨_, rfl⟩
    have HR := hid hr
    by_cases h2 : n < -9223372036854775808 + r
    · have h3 : z = n := by rw [HZ.out]; unfold mulW; rw [e1.out, HR.out, if_pos h2]
      subst h3
      go_enter Tryz.func23, Tryz.ntmps23
      go_wp2
      all_goals (go_ret; exact ⟨rfl, rfl⟩)
    · have h3 : z = n - r := by rw [HZ.out]; unfold mulW; rw [e1.out, HR.out, if_neg h2]
      subst h3
      go_enter Tryz.func23, Tryz.ntmps23
      go_wp2
      all_goals (go_ret; exact ⟨rfl, rfl⟩)
  · have e1 := hid (tmod_pos w1 h1)
    by_cases h2 : n < -9223372036854775808 + n.tmod w
    · have h3 : z = n := by rw [HZ.out]; unfold mulW; rw [e1.out, if_pos h2]
      subst h3
      go_enter Tryz.func23, Tryz.ntmps23
      go_wp2
      all_goals (go_ret; exact ⟨rfl, rfl⟩)
    · have h3 : z = n - n.tmod w := by rw [HZ.out]; unfold mulW; rw [e1.out, if_neg h2]
      subst h3
      go_enter Tryz.func23, Tryz.ntmps23
      go_wp2
      all_goals (go_ret; exact ⟨rfl, rfl⟩)
end Go.Proofs.YtcidijjbcebcbaaGreat.RO
namespace Go.Proofs.YtcidijjbcebcbaaGreat.RO
open Go.RowKit Go.Joins Go.Sort

/- A row whose place p is laid down to a multiple of a width. -/
def setN (p : Nat) (m : Int) (r : TN.Rw) : TN.Rw := r.set p { key p r with n := m }
def alR (p : Nat) (wd : Int) (r : TN.Rw) : TN.Rw := setN p (mulW (key p r).n wd) r
theorem own_parts {B e : Nat} {w : World} {v : Value} {r : TN.Rw} (h : TN.Own TN.Vl.cells 11 e B w v r) (hne : r ≠ []) : ∃ g c cur, v = .slice (some ⟨g, 0, none⟩) r.length c ∧ B ≤ g ∧ w.heap[g]? = some (.cells cur e (0, 0)) := by
  rcases h.2 with ⟨-, h0⟩ | ⟨g, cap, cur, hv, hg, hblk, hc, hm, hs, ht⟩
  · exact absurd (List.length_eq_zero_iff.1 h0) hne
  · exact ⟨g, cap, cur, hv, hg, hblk⟩
set_option maxHeartbeats 400000 in
theorem cloneOwn_any {u : Value} {r : TN.Rw} {w : World} (hu : TN.RowAt w u r) :
    Calls Tryz.prog 22 #[u] w fun e w' => ∃ v', e = .returned v' ∧ TN.Own TN.Vl.cells 11 52 w.heap.size w' v' r ∧ Below w.heap.size w w' := by
  have HU := hid hu
  obtain ⟨p, cap, rfl, hcap, hmax, hx⟩ := hu
  clear hcap hmax hx
  generalize List.length r = n at *
  have q22 : ∀ (w : World) (a : Option Addr) (n c n' c' : Nat), (binOp .eql 45 (.slice a n c) (.slice none n' c')).run Tryz.prog w = .ok (.bool a.isNone) w := fun w a n c n' c' => Lib.run_eql_slice_nil w _ _ a n c n' c' Tryz.underlying45
  cases p with
  | none =>
    have hn := TN.SlAt.empty HU.out
    subst hn
    go_enter Tryz.func22, Tryz.ntmps22
    go_wp2
    go_ret
    exact ⟨_, rfl, TN.Own.nil _ _ _ _ _, Below.refl _ _⟩
  | some ad =>
    go_enter Tryz.func22, Tryz.ntmps22
    go_wp2_with (at_builtin; refine TN.app_any TN.elem48 TN.vl_len (fun x _ => TN.vl_cells x) rfl _ _ rfl rfl (TN.Own.made TN.Vl.cells 11 52 w.heap.size w (Nat.le_refl _)) rfl (TN.SlAt.on HU.out ((Below.refl _ _).alloc (Nat.le_refl _) _)) (by simpa using TN.SlAt.bound HU.out) (by simp) ?_; intro v' w1 hown hb1)
    go_ret
    exact ⟨_, rfl, by rw [List.nil_append] at hown; exact hown, ((Below.refl _ _).alloc (Nat.le_refl _) _).trans hb1⟩
/- One value's number set in a row of one's own. -/
theorem row_set {w : World} {g n c p : Nat} {r : TN.Rw} {m : Int} (h : TN.RowIn (fun b => b = g) w (.slice (some ⟨g, 0, none⟩) n c) r) (hp : p < r.length) : TN.RowIn (fun b => b = g) (w.setCell ⟨g, p * 11 + 1, none⟩ (.int .i64 m)) (.slice (some ⟨g, 0, none⟩) n c) (setN p m r) := by
  obtain ⟨q, cap, e, hc, hm, hx⟩ := h
  cases e
  have hl : (setN p m r).length = r.length := by unfold setN; rw [List.length_set]
  have hr : r ≠ [] := by intro e; subst e; simp at hp
  obtain ⟨b, o, e2, hQ, hj⟩ := hx hr
  cases e2
  have h1 := hj p r[p] (List.getElem?_eq_getElem hp) 1 _ rfl
  refine ⟨_, _, by rw [hl], by rw [hl]; exact hc, by rw [hl]; exact hm, fun _ => ⟨g, 0, rfl, ⟨rfl, by rw [hl]; exact hQ.2⟩, fun j x hjx i u hu => ?_⟩⟩
  unfold setN at hjx
  rw [List.getElem?_set] at hjx
  by_cases e : p = j
  · subst e
    rw [if_pos rfl, if_pos hp] at hjx
    cases hjx
    have hk : key p r = r[p] := by unfold key; rw [List.getD_eq_getElem?_getD, List.getElem?_eq_getElem hp]; rfl
    rw [hk] at hu
    by_cases e1 : i = 1
    · subst e1
      have hu' : Value.int .i64 m = u := by simpa [TN.Vl.cells] using hu
      subst hu'
      have := World.cell?_setCell_same w ⟨g, p * 11 + 1, none⟩ (.int .i64 m) (by simpa using h1)
      simpa using this
    · rw [World.cell?_setCell_other _ _ _ _ (by intro e'; simp only [Addr.mk.injEq] at e'; omega)]
      refine hj p r[p] (List.getElem?_eq_getElem hp) i u ?_
      match i, e1, hu with
      | 0, _, hu => exact hu
      | i + 2, _, hu => exact hu
  · rw [if_neg e] at hjx
    have hi : i < 11 := by have := (List.getElem?_eq_some_iff.1 hu).1; simpa [TN.Vl.cells] using this
    rw [World.cell?_setCell_other _ _ _ _ (by intro e'; simp only [Addr.mk.injEq] at e'; omega)]
    exact hj j x hjx i u hu
end Go.Proofs.YtcidijjbcebcbaaGreat.RO
namespace Go.Proofs.YtcidijjbcebcbaaGreat.RO
open Go.RowKit Go.Joins Go.Sort

theorem step_call2r {ops : Array Oper} {o : Oper} {a : Act} {w : World} {K : Act → World → Prop} {Q : Exit → Act → World → Prop} {E : Prop} {f : FuncId} {v v2 : Value} (hgd : o.guard = none) (x y : Operand) (t t2 : TypeId)
    (ho : o.op = .call { callee := .value (.func f), args := #[x, y], argTypes := #[t, t2] }) (hx : a.eval x = v) (hy : a.eval y = v2) (hen : ∀ args w, (callFunc f args).run Tryz.prog w = .ok (.enter f args) w)
    (hc : Calls Tryz.prog f #[v, v2] w fun e w' => ∃ u, e = .returned u ∧ K (a.put o.dst u) w') : if Region.wanted o (yielded ops a.tmps) = true then Oper.wp Tryz.prog o a w K Q else E := by
  have hw : Region.wanted o (yielded ops a.tmps) = true := by simp [Region.wanted, hgd]
  rw [if_pos hw]
  unfold Oper.wp
  have hr : (execOp a.eval o).run Tryz.prog w = .ok (.enter f #[v, v2]) w := by
    simp [execOp, ho, resolve, invoke, hen, go_sem]
    rw [← hx, ← hy]
    cases x <;> cases y <;> simp [Act.eval]
  rw [hr, Oper.upon_enter]
  refine hc.mono ?_
  rintro e w' ⟨u, rfl, hk⟩
  exact hk
theorem own_tn {B e : Nat} {w : World} {v : Value} {xs : List Value} (h : Own TN.one 1 e B w v xs) (hl : xs.length ≤ 1000000) : TN.SlAt TN.any TN.one 1 w v xs := by
  rcases h.2 with ⟨hv, h0⟩ | ⟨g, cap, cur, hv, hg, hblk, hc, hm, q⟩
  · have hn : xs = [] := List.eq_nil_of_length_eq_zero h0
    subst hn
    rw [hv]; exact TN.SlAt.nil _ _ _ _
  · refine ⟨some ⟨g, 0, none⟩, cap, hv, ⟨hc, fun e => by cases e⟩, by unfold maxLen; omega, fun _ => ⟨g, 0, rfl, ⟨trivial, by unfold TN.bsz; rw [if_neg (by decide)]; omega⟩, fun j x hx i u hi => ?_⟩⟩
    have := World.ownsRow.cells h (g := g) (by rw [hv]; rfl) (j * 1 + i) u (flat_get (enc := TN.one) (k := 1) (fun _ => rfl) xs j x hx i u hi)
    rw [Addr.add_lit, Nat.zero_add] at this
    rw [Nat.zero_add]
    exact this
theorem enters_mul : ∀ args w, (callFunc 23 args).run Tryz.prog w = .ok (.enter 23 args) w := enters_of Tryz.func23 (by kernel_rfl) rfl
set_option maxRecDepth 100000 in
set_option maxHeartbeats 4000000 in
theorem align1_any {c rv : Value} {cs : List TN.Cl} {rs : List TN.Rw} {bt bp bw p : Nat} {wd : Int} {w : World} (ht : TN.TabAt w (.agg #[c, rv]) cs rs) (h0 : w.cell? ⟨bt, 0, none⟩ = some c) (h1 : w.cell? ⟨bt, 1, none⟩ = some rv) (hp : w.cell? ⟨bp, 0, none⟩ = some (.int .i64 (p : Int))) (hn : w.cell? ⟨bw, 0, none⟩ = some (.int .i64 wd)) (hpr : ∀ r ∈ rs, p < r.length ∧ r.length ≤ 1000000) (hin : ∀ r ∈ rs, InI (key p r).n) (hwd : 1 ≤ wd ∧ wd ≤ 9223372036854775807) (hrl : rs.length ≤ 1000000) : Calls Tryz.prog 21 #[.pointer (some ⟨bt, 0, none⟩), .pointer (some ⟨bp, 0, none⟩), .pointer (some ⟨bw, 0, none⟩)] w fun e w' => ∃ v', e = .returned v' ∧ TN.TabAt w' v' cs (rs.map (alR p wd)) ∧ Below w.heap.size w w' := by
  obtain ⟨c', rv', e, hc, hs, hr, hh⟩ := ht
  cases e
  have HC := hid hc
  have HC0 := hid hc
  have HR := hid hr
  have HH := hid hh
  obtain ⟨pc, cc, rfl, -⟩ := id hc
  obtain ⟨pr, cr, rfl, -⟩ := id hr
  have btl := block_lt_of_cell h0
  have bpl := block_lt_of_cell hp
  have bwl := block_lt_of_cell hn
  simp only at btl bpl bwl
  have HP := hid hp
  have HN := hid hn
  have HPR := hid hpr
  have HIN := hid hin
  have HWD := hid hwd
  have hml : hs.length ≤ 1000000 := by rw [hh.1]; exact hrl
  obtain ⟨W, hW⟩ : ∃ W, W = (w.alloc (.cells #[.slice none 0 0, .slice none 0 0] 25)).alloc (.cells #[.slice pc cs.length cc, .slice none 0 0] 25) := ⟨_, rfl⟩
  have k0 := block_on (alloc_block w (.cells #[.slice none 0 0, .slice none 0 0] 25)) ((Below.refl _ _).alloc (Nat.le_refl _) (.cells #[.slice pc cs.length cc, .slice none 0 0] 25))
  have k1 := TN.alloc_blk2 w (.cells #[.slice none 0 0, .slice none 0 0] 25) (.cells #[.slice pc cs.length cc, .slice none 0 0] 25)
  have hb : Below w.heap.size w W := by rw [hW]; exact ((Below.refl w.heap.size w).alloc (Nat.le_refl _) _).alloc (by simp) _
  have hWs : W.heap.size = w.heap.size + 1 + 1 := by rw [hW]; simp
  rw [← hW] at k0 k1
  have K0 := hid k0
  have K1 := hid k1
  have HB := hid hb
  have HW := hid hW
  have HWs := hid hWs
  clear hW k0 k1 hb hc hr hh hp hn hpr hin hwd hWs
  generalize hk : hs.length = m at *
  have mI : (m : Int) ≤ 1000000 := by omega
  have HM := hid hk
  clear hk
  go_enter Tryz.func21, Tryz.ntmps21
  go_upto_region 2 with fail
  rw [← HW.out]
  clear HW
  have q0 : W.cell? ⟨bt, 1, none⟩ = some (.slice pr m cr) := (HB.out.cell (p := ⟨bt, 1, none⟩) btl).trans h1
  go_upto_region 3 with fail
  go_loopw [14] (fun x wr => ∃ k : Nat, k ≤ m ∧ x = .int .i64 k ∧ Hid (∃ v hs', wr.heap[w.heap.size + 1]? = some (.cells #[.slice pc cs.length cc, v] 25 (0, 0)) ∧ PD.Rws (w.heap.size + 1 + 1) wr v hs' ((rs.take k).map (alR p wd))) ∧ Hid (Kp (fun b => b = w.heap.size + 1) W wr)) (fun x _ => m - (intOf x).toNat)
  case atStart => exact ⟨0, by omega, rfl, ⟨_, [], K1.out, PD.Rws.nil _ _⟩, Kp.refl _ _⟩
  case round =>
    obtain ⟨k, hk, rfl, HV, HK⟩ := hrel
    obtain ⟨v, hs', hvb, hrs⟩ := HV.out
    have hBr : Below w.heap.size w wr := HB.out.trans (HK.out.below HB.out.size (fun b e => by omega))
    have HBr := hid hBr
    have KV := hid hvb
    have HRs := hid hrs
    obtain ⟨pv, cv, rfl⟩ := hrs.own.form
    clear hvb hrs HV hBr q0
    by_cases hlt : k < m
    · have ltI : (k : Int) < m := by omega
      have k0 : (0 : Int) ≤ k := by omega
      obtain ⟨h, hh⟩ : ∃ h, hs[k]? = some h := ⟨_, List.getElem?_eq_getElem (by have := HM.out; omega)⟩
      obtain ⟨r, hrr⟩ : ∃ r, rs[k]? = some r := ⟨_, List.getElem?_eq_getElem (by have := HM.out; have := HH.out.1; omega)⟩
      have hrow := HH.out.2 k h r hh hrr
      obtain ⟨bh, oh, hpr2, cellh⟩ : ∃ b o, pr = some ⟨b, o, none⟩ ∧ wr.cell? ⟨b, o + k, none⟩ = some h := by
        obtain ⟨p', c', e', -, -, hx⟩ := HR.out.on HBr.out
        cases e'
        obtain ⟨b, o, hp, -, hj⟩ := hx (by intro e; rw [e] at hh; simp at hh)
        exact ⟨b, o, hp, by have := hj k h hh 0 h rfl; simpa using this⟩
      subst hpr2
      have HRow := hid (hrow.on HBr.out)
      obtain ⟨ph, ch, eh, -⟩ := id hrow
      subst eh
      have hmem := List.mem_of_getElem? hrr
      have HPr := hid (HPR.out r hmem)
      have HIr := hid (HIN.out r hmem)
      have HX0 := hid hrr
      clear hrow hrr hh hmem
      go_upto_region 6 with (first | (go_at_call 22; refine (cloneOwn_any HRow.out).mono ?_; rintro e w1 ⟨v1, rfl, ho1, hb1⟩; have HO1 := hid ho1; have HB1 := hid hb1; clear ho1 hb1))
      have hne : r ≠ [] := by intro e; have := HPr.out.1; subst e; simp at this
      obtain ⟨g, c3, cur, e1, hg, hgb⟩ := own_parts HO1.out hne
      subst e1
      have hRI : TN.RowIn (fun b => b = g) w1 (.slice (some ⟨g, 0, none⟩) r.length c3) r := by
        obtain ⟨q, cap, e, hc, hm, hx⟩ := TN.Own.sl HO1.out TN.vl_len (TN.SlAt.bound HRow.out)
        cases e
        refine ⟨_, _, rfl, hc, hm, fun hne => ?_⟩
        obtain ⟨b, o, e2, hQ, hj⟩ := hx hne
        cases e2
        exact ⟨g, 0, rfl, ⟨rfl, hQ.2⟩, hj⟩
      have HRI := hid hRI
      have cN : w1.cell? ⟨g, p * 11 + 1, none⟩ = some (.int .i64 (key p r).n) := by
        obtain ⟨b, o, c', e, hcell⟩ := row_at (hRI.imp fun _ _ => trivial) HPr.out.1
        cases e
        have := (TN.val_cells hcell).c1
        simpa using this
      have fz := block_frozen hgb
      have HGl := hid (lt_of_block hgb)
      have hbw1 := TN.below_on HBr.out HB1.out
      have yp : w1.cell? ⟨bp, 0, none⟩ = some (.int .i64 (p : Int)) := (hbw1.cell (p := ⟨bp, 0, none⟩) bpl).trans HP.out
      have yw : w1.cell? ⟨bw, 0, none⟩ = some (.int .i64 wd) := (hbw1.cell (p := ⟨bw, 0, none⟩) bwl).trans HN.out
      have pI : (p : Int) < r.length := by have := HPr.out.1; omega
      have p0 : (0 : Int) ≤ p := by omega
      have rlI : (r.length : Int) ≤ 1000000 := by have := HPr.out.2; omega
      have HMul := hid (fun W => multiple_any HIr.out HWD.out W)
      have HSet := hid (fun m => row_set (m := m) HRI.out HPr.out.1)
      have HGE := hid hg
      have HBw1 := hid hbw1
      have HGB := hid hgb
      generalize hal : mulW (key p r).n wd = z at *
      have HAL := hid hal
      generalize hkn : (key p r).n = kn at *
      have HKN := hid hkn
      clear hkn
      generalize r.length = nr at *
      clear hRI hgb hg hbw1 hne hal
      go_cut [] from 20 to 30 (fun wx => wx = (w1.setCell ⟨g, p * 11 + 1, none⟩ (.int .i64 z)).drew)
      case first =>
        go_region_law (refine step_call2r (v := .int .i64 kn) (v2 := .int .i64 wd) rfl (.tmp 26) (.tmp 27) 3 3 rfl rfl rfl enters_mul ?_; refine (HMul.out _).mono ?_; rintro e w2 ⟨rfl, he⟩; replace he := he.symm; subst he; refine ⟨_, rfl, ?_⟩)
        all_goals
          go_wp2_with fail
          go_meet
          case rel => exact rfl
      case rest =>
        have hwl : w.heap.size + 1 < wr.heap.size := lt_of_block KV.out
        have hgw := HGE.out
        have hbrc : Below wr.heap.size wr wc := by rw [hcut]; exact (TN.below_set HB1.out hgw).drew
        have HBrc := hid hbrc
        have KVc := hid (block_on KV.out hbrc)
        have HRc := hid (HRs.out.on hbrc)
        have hvo : ∀ b, (Value.slice pv hs'.length cv).ownBlock = some b → b < wr.heap.size := fun b e => (HRs.out.own.at e).2
        have hvo2 : ∀ b, (Value.slice pv hs'.length cv).ownBlock = some b → w.heap.size + 1 + 1 ≤ b := fun b e => (HRs.out.own.at e).1
        have hrow : TN.RowIn (fun b => b = g) wc (.slice (some ⟨g, 0, none⟩) nr c3) (alR p wd r) := by
          have := HSet.out z
          rw [hcut]; unfold alR; rw [HKN.out, HAL.out]; exact this.on (Below.refl _ _).drew
        have hgc : g < wc.heap.size := by rw [hcut]; have := HGl.out; simpa using this
        have HX := hid (hrow.imp (Q' := fun b => w.heap.size + 1 + 1 ≤ b ∧ b < wc.heap.size ∧ (Value.slice pv hs'.length cv).ownBlock ≠ some b) (fun b e => by subst e; exact ⟨by omega, hgc, fun e => by have := hvo _ e; omega⟩))
        have hsl : hs'.length ≤ 1000000 := by rw [HRs.out.len, List.length_map, List.length_take]; omega
        have hwcs : wr.heap.size ≤ wc.heap.size := HBrc.out.size
        have yv := block_cell KVc.out
        have xv := block_frozen KVc.out
        have HVO := hid hvo2
        have HTk := hid (show (rs.take (k + 1)).map (alR p wd) = (rs.take k).map (alR p wd) ++ [alR p wd r] by rw [List.take_add_one, HX0.out]; simp)
        have HKc := hid hcut
        clear hcut hbrc hrow hgw hvo hvo2 cN fz yp yw
        go_wp2_with (first
          | (at_builtin; refine app_A PD.elem_row (fun _ => rfl) (by intro y hy c hc; simp at hy; subst hy; simp [TN.one] at hc; subst hc; rfl) rfl _ _ rfl rfl (HRc.out.own.on ((Below.refl _ _).alloc (Nat.le_refl _) (.cells #[.slice (some ⟨g, 0, none⟩) nr c3] 45))) rfl (Own.sl (Own.blk (enc := TN.one) (k := 1) (e := 45) (B := wc.heap.size) (w := wc.alloc (.cells #[.slice (some ⟨g, 0, none⟩) nr c3] 45)) (xs := [.slice (some ⟨g, 0, none⟩) nr c3]) (fun _ => rfl) (Nat.le_refl _) (alloc_block wc _) (by unfold maxLen; simp)) (fun _ => rfl)) (by simp) (by simp; omega) (by decide) (by simp; omega) ?_; intro v5 w5 ho hg5 hat; obtain ⟨p5, c5, rfl⟩ := ho.form; have HR5 := hid ((HRc.out.on ((Below.refl _ _).alloc (Nat.le_refl _) (.cells #[.slice (some ⟨g, 0, none⟩) nr c3] 45))).app (r := alR p wd r) ((HX.out.on ((Below.refl _ _).alloc (Nat.le_refl _) (.cells #[.slice (some ⟨g, 0, none⟩) nr c3] 45))).imp (fun b hb => ⟨hb.1, by have := hb.2.1; simp; omega, hb.2.2⟩)) ho hg5 hat); have HK5 : Hid (Kp (fun b => (Value.slice pv hs'.length cv).ownBlock = some b) wc w5) := (Kp.alloc _ wc _).trans (Kp.grown (T := fun b => (Value.slice pv hs'.length cv).ownBlock = some b) hg5 (fun b e => e)); have KV5 := hid (HK5.out.blk KVc.out (fun e => by have := HVO.out _ e; omega)); have y5 := block_cell KV5.out; have x5 := block_frozen KV5.out; clear ho hg5 hat))
        have hks : Kp (fun b => b = w.heap.size + 1) w5 (w5.setCell ⟨w.heap.size + 1, 1, none⟩ (.slice p5 (hs'.length + 1) c5)) := Kp.set (T := fun b => b = w.heap.size + 1) rfl _
        have hlen : (hs' ++ [Value.slice (some ⟨g, 0, none⟩) nr c3]).length = hs'.length + 1 := by simp
        have hR6 := HR5.out
        rw [hlen] at hR6
        refine ⟨⟨k + 1, by omega, by go_num, ⟨_, _, block_set KV5.out 1 (.slice p5 (hs'.length + 1) c5), by rw [HTk.out]; exact hR6.kp hks (fun b e => by omega)⟩, ?_⟩, by simp [intOf]; omega⟩
        have hw := HWs.out
        exact ((HK.out.trans (Kp.of HBrc.out)).trans' HK5.out (fun b hb e => by have := HVO.out _ e; omega)).trans hks
    · obtain rfl : k = m := by omega
      have ltI : ¬ (k : Int) < k := by omega
      have yv := block_cell KV.out
      have hwl : w.heap.size + 1 < wr.heap.size := lt_of_block KV.out
      have K0r := hid (HK.out.blk K0.out (fun e => by have e' : w.heap.size = w.heap.size + 1 := e; omega))
      have y0 := block_cell K0r.out
      have x0 := block_frozen K0r.out
      have hrl2 : rs.take k = rs := by rw [List.take_of_length_le]; rw [← HH.out.1, HM.out]; exact Nat.le_refl _
      rw [hrl2] at HRs
      have HCr := hid (HC.out.on HBr.out)
      clear hrl2
      go_wp2
      have hks : Kp (fun b => b = w.heap.size) wr ((wr.setCell ⟨w.heap.size, 0, none⟩ (.slice pc cs.length cc)).setCell ⟨w.heap.size, 1, none⟩ (.slice pv hs'.length cv)) := (Kp.set (T := fun b => b = w.heap.size) rfl _).trans (Kp.set (T := fun b => b = w.heap.size) rfl _)
      have KF := block_set (block_set K0r.out 0 (.slice pc cs.length cc)) 1 (.slice pv hs'.length cv)
      have hRf := HRs.out.kp hks (fun b e => by omega)
      have hCf : TN.ColsAt ((wr.setCell ⟨w.heap.size, 0, none⟩ (.slice pc cs.length cc)).setCell ⟨w.heap.size, 1, none⟩ (.slice pv hs'.length cv)) (.slice pc cs.length cc) cs := (colsKp (TN.SlAt.low HC0.out (by decide) TN.cl_len |>.on HBr.out) hks (fun b hb e => by have h1 := hb.2; have e' : b = w.heap.size := e; omega)).imp (fun _ _ => trivial)
      have hbf := HBr.out.trans (hks.below (by omega) (fun b e => by omega))
      clear y0 x0 yv
      generalize ((wr.setCell ⟨w.heap.size, 0, none⟩ (.slice pc cs.length cc)).setCell ⟨w.heap.size, 1, none⟩ (.slice pv hs'.length cv)) = WF at *
      refine bodyPost_ret (v := .agg #[.slice pc cs.length cc, .slice pv hs'.length cv]) ?hv rfl ⟨_, rfl, ⟨_, _, rfl, hCf, hs', ?hr, ?hh⟩, hbf⟩
      case hv =>
        have kcf := block_cell KF
        clear KF
        simp [results, Tryz.results21, go_sem, kcf]
      case hr => exact own_tn hRf.own (by rw [hRf.len, List.length_map]; omega)
      case hh => exact ⟨hRf.len, fun j x r h1 h2 => (hRf.row j x r h1 h2).imp fun _ _ => trivial⟩
end Go.Proofs.YtcidijjbcebcbaaGreat.RO
