/-
  The reference's Align.
  The reference's Align.
  The reference's Top: its errors.
  Small laws that the reference's Union wants.
  What the reference's Union returns, for every two tables.
-/
import Derived.Test.YtcidijjbcebcbaaKW14
import Derived.Test.YtcidijjbcebcbaaKW15
import Derived.Test.YtcidijjbcebcbaaKW17
import Derived.Test.YtcidijjbcebcbaaKW19
import Derived.Test.YtcidijjbcebcbaaKW21
import Derived.Deep.RegionHeld
namespace Go.Proofs.Ytcidijjbcebcbaa.RO
open Go.RowKit Go.Joins Go.Sort

/- A table that is told beside an error's number, wherever it lies. -/
def TabR (b : Bool) (w' : World) (v : Value) (cs : List TN.Cl) (rs : List TN.Rw) : Prop := TN.TabAt w' v (if b then cs else []) (if b then rs else [])
theorem TabR.no {w' : World} (cs : List TN.Cl) (rs : List TN.Rw) : TabR false w' (.agg #[.slice none 0 0, .slice none 0 0]) cs rs := ⟨_, _, rfl, TN.SlAt.nil _ _ _ _, [], TN.SlAt.nil _ _ _ _, rfl, fun j h r h1 => by simp at h1⟩
end Go.Proofs.Ytcidijjbcebcbaa.RO
namespace Go.Proofs.Ytcidijjbcebcbaa.RO
open Go.RowKit Go.Joins Go.Sort

end Go.Proofs.Ytcidijjbcebcbaa.RO
namespace Go.Proofs.Ytcidijjbcebcbaa.RO
open Go.RowKit Go.Joins Go.Sort

set_option maxRecDepth 100000 in
set_option maxHeartbeats 4000000 in
theorem rtop_check {tv : Value} {cs : List TN.Cl} {rs : List TN.Rw} {n : Int} {nm : ByteArray} {w : World} (ht : TN.TabAt w tv cs rs) (hrl : rs.length ≤ 1000000) (hck : ¬ TN.checkV cs rs = 0) : Calls Try.prog 31 #[tv, .int .i64 n, .string nm] w fun e w' => ∃ v', e = .returned (.tuple #[v', .int .i64 (runE cs rs (topB cs n nm))]) ∧ FormT v' ∧ TabR (okE cs rs (topB cs n nm)) w' v' cs (topR (TN.findC cs nm).toNat n.toNat rs) ∧ Below w.heap.size w w' := by
  have hE : runE cs rs (topB cs n nm) = TN.checkV cs rs := by unfold runE; rw [if_neg hck]
  have hO : okE cs rs (topB cs n nm) = false := by unfold okE; rw [decide_eq_false hck]; rfl
  have HE := hid hE
  have HO := hid hO
  clear hE hO
  obtain ⟨c, rv, rfl, hc, hs, hr, hh⟩ := ht
  have HT := hid (show TN.TabAt w (.agg #[c, rv]) cs rs from ⟨c, rv, rfl, hc, hs, hr, hh⟩)
  have HC := hid hc
  have HR := hid hr
  have HH := hid hh
  have hml : hs.length ≤ 1000000 := by rw [hh.1]; exact hrl
  obtain ⟨pc, cc, rfl, -⟩ := id hc
  obtain ⟨pr, cr, rfl, -⟩ := id hr
  clear hc hr hh
  generalize hncs : cs.length = nc at *
  generalize hk : hs.length = m at *
  have HNC := hid hncs
  have HM := hid hk
  have mI : (m : Int) ≤ 1000000 := by omega
  obtain ⟨W, hW⟩ : ∃ W, W = (w.alloc (.cells #[.slice pc nc cc, .slice pr m cr] 28)).alloc (.cells #[.slice none 0 0, .slice none 0 0] 28) := ⟨_, rfl⟩
  have k0 := block_on (alloc_block w (.cells #[.slice pc nc cc, .slice pr m cr] 28)) ((Below.refl _ _).alloc (Nat.le_refl _) (.cells #[.slice none 0 0, .slice none 0 0] 28))
  have k1 := TN.alloc_blk2 w (.cells #[.slice pc nc cc, .slice pr m cr] 28) (.cells #[.slice none 0 0, .slice none 0 0] 28)
  have hb : Below w.heap.size w W := by rw [hW]; exact ((Below.refl w.heap.size w).alloc (Nat.le_refl _) _).alloc (by simp) _
  rw [← hW] at k0 k1
  have K0 := hid k0
  have K1 := hid k1
  have HB := hid hb
  have HW := hid hW
  have y0 := block_cell k0
  have HCK := hid (fun W (hb : Below w.heap.size w W) => TN.rcheck_any (HT.out.on hb))
  generalize hz : TN.checkV cs rs = z at *
  have HZ0 := hid hz
  clear hW k0 k1 hb hncs hk hz
  go_enter Try.func31, Try.ntmps31
  go_upto_region 1 with fail
  rw [← HW.out]
  clear HW
  have zb : (z != 0) = true := by simp; exact hck
  go_wp2_with (first | (go_at_call 32; refine (HCK.out W HB.out).mono ?_; rintro e w1 ⟨rfl, hb⟩; have HB1 := hid hb; have K01 := hid (block_on K0.out hb); have K11 := hid (block_on K1.out hb); have k11 := block_cell K11.out; have f11 := block_frozen K11.out; have y01 := block_cell K01.out; clear hb))
  refine bodyPost_ret (v := .tuple #[.agg #[.slice none 0 0, .slice none 0 0], .int .i64 z]) ?hv1 rfl ⟨_, by rw [HE.out], ⟨_, _, _, _, _, _, rfl⟩, by rw [HO.out]; exact TabR.no _ _, TN.below_set (TN.below_set (TN.below_on HB.out HB1.out) (by omega)) (by omega)⟩
  case hv1 =>
    have KF := block_set (block_set K11.out 0 (.slice none 0 0)) 1 (.slice none 0 0)
    clear k11 f11
    generalize ((w1.setCell ⟨w.heap.size + 1, 0, none⟩ (.slice none 0 0)).setCell ⟨w.heap.size + 1, 1, none⟩ (.slice none 0 0)) = WF at KF ⊢
    have kcf := block_cell KF
    clear KF
    simp [results, Try.results31, go_sem, kcf]
set_option maxRecDepth 100000 in
set_option maxHeartbeats 8000000 in
theorem rtop_bad {tv : Value} {cs : List TN.Cl} {rs : List TN.Rw} {n : Int} {nm : ByteArray} {w : World} (ht : TN.TabAt w tv cs rs) (hrl : rs.length ≤ 1000000) (hck : TN.checkV cs rs = 0) (hbad : topB cs n nm = false) : Calls Try.prog 31 #[tv, .int .i64 n, .string nm] w fun e w' => ∃ v', e = .returned (.tuple #[v', .int .i64 (runE cs rs (topB cs n nm))]) ∧ FormT v' ∧ TabR (okE cs rs (topB cs n nm)) w' v' cs (topR (TN.findC cs nm).toNat n.toNat rs) ∧ Below w.heap.size w w' := by
  obtain ⟨c, rv, rfl, hc, hs, hr, hh⟩ := ht
  have HT := hid (show TN.TabAt w (.agg #[c, rv]) cs rs from ⟨c, rv, rfl, hc, hs, hr, hh⟩)
  have HC := hid hc
  have HR := hid hr
  have HH := hid hh
  have hml : hs.length ≤ 1000000 := by rw [hh.1]; exact hrl
  obtain ⟨pc, cc, rfl, -⟩ := id hc
  obtain ⟨pr, cr, rfl, -⟩ := id hr
  clear hc hr hh
  generalize hncs : cs.length = nc at *
  generalize hk : hs.length = m at *
  have HNC := hid hncs
  have HM := hid hk
  have mI : (m : Int) ≤ 1000000 := by omega
  obtain ⟨W, hW⟩ : ∃ W, W = (w.alloc (.cells #[.slice pc nc cc, .slice pr m cr] 28)).alloc (.cells #[.slice none 0 0, .slice none 0 0] 28) := ⟨_, rfl⟩
  have k0 := block_on (alloc_block w (.cells #[.slice pc nc cc, .slice pr m cr] 28)) ((Below.refl _ _).alloc (Nat.le_refl _) (.cells #[.slice none 0 0, .slice none 0 0] 28))
  have k1 := TN.alloc_blk2 w (.cells #[.slice pc nc cc, .slice pr m cr] 28) (.cells #[.slice none 0 0, .slice none 0 0] 28)
  have hb : Below w.heap.size w W := by rw [hW]; exact ((Below.refl w.heap.size w).alloc (Nat.le_refl _) _).alloc (by simp) _
  rw [← hW] at k0 k1
  have K0 := hid k0
  have K1 := hid k1
  have HB := hid hb
  have HW := hid hW
  have y0 := block_cell k0
  have HCK := hid (fun W (hb : Below w.heap.size w W) => TN.rcheck_any (HT.out.on hb))
  generalize hz : TN.checkV cs rs = z at *
  have HZ0 := hid hz
  clear hW k0 k1 hb hncs hk hz
  go_enter Try.func31, Try.ntmps31
  go_upto_region 1 with fail
  rw [← HW.out]
  clear HW
  have zb : (z != 0) = false := by simp [hck]
  go_upto_region 5 with (first
    | (go_at_call 32; refine (HCK.out W HB.out).mono ?_; rintro e w1 ⟨rfl, hb⟩; have HB1 := hid hb; have K01 := hid (block_on K0.out hb); have K11 := hid (block_on K1.out hb); have k11 := block_cell K11.out; have f11 := block_frozen K11.out; have y01 := block_cell K01.out; clear hb)
    | (go_at_call 44; refine (TN.rfind_any (nm := nm) (HC.out.on (TN.below_on HB.out HB1.out))).mono ?_; rintro e w2 ⟨rfl, hb⟩; have HB2 := hid (TN.below_on (TN.below_on HB.out HB1.out) hb); have K02 := hid (block_on K01.out hb); have K12 := hid (block_on K11.out hb); have y02 := block_cell K02.out; clear k11 f11 y01 hb))
  have k11 := block_cell K12.out
  have f11 := block_frozen K12.out
  have HZl := hid (TN.findC_lt cs nm)
  have HTB2 : Hid (topB cs n nm = decide (1 ≤ n ∧ n ≤ 1000 ∧ 0 ≤ TN.findC cs nm ∧ kdOf cs (TN.findC cs nm) ≠ 4)) := rfl
  generalize hzz : TN.findC cs nm = q at *
  have HZE := hid hzz
  have HCo := hid (HC.out.on HB2.out)
  clear hzz
  by_cases c1 : 1 ≤ n
  case neg =>
    have d1 : decide (n < 1) = true := decide_eq_true (by omega)
    have c1b : n < 1 := by omega
    have hE : runE cs rs false = 1 := by unfold runE; rw [HZ0.out, if_pos hck]; rfl
    have hO : okE cs rs false = false := by unfold okE; rw [HZ0.out]; simp
    have HE := hid hE
    have HO := hid hO
    clear hE hO
    go_wp2_with fail
    refine bodyPost_ret (v := .tuple #[.agg #[.slice none 0 0, .slice none 0 0], .int .i64 1]) ?hv2 rfl ⟨_, by rw [HE.out], ⟨_, _, _, _, _, _, rfl⟩, by rw [HO.out]; exact TabR.no _ _, TN.below_set (TN.below_set (HB2.out) (by omega)) (by omega)⟩
    case hv2 =>
      have KF := block_set (block_set K12.out 0 (.slice none 0 0)) 1 (.slice none 0 0)
      clear k11 f11
      generalize ((w2.setCell ⟨w.heap.size + 1, 0, none⟩ (.slice none 0 0)).setCell ⟨w.heap.size + 1, 1, none⟩ (.slice none 0 0)) = WF at KF ⊢
      have kcf := block_cell KF
      clear KF
      simp [results, Try.results31, go_sem, kcf]
  have d1 : decide (n < 1) = false := decide_eq_false (by omega)
  have c1b : ¬ n < 1 := by omega
  by_cases c2 : n ≤ 1000
  case neg =>
    have d2 : decide (n > 1000) = true := decide_eq_true (by omega)
    have c2b : n > 1000 := by omega
    have hE : runE cs rs false = 1 := by unfold runE; rw [HZ0.out, if_pos hck]; rfl
    have hO : okE cs rs false = false := by unfold okE; rw [HZ0.out]; simp
    have HE := hid hE
    have HO := hid hO
    clear hE hO
    go_wp2_with fail
    refine bodyPost_ret (v := .tuple #[.agg #[.slice none 0 0, .slice none 0 0], .int .i64 1]) ?hv5 rfl ⟨_, by rw [HE.out], ⟨_, _, _, _, _, _, rfl⟩, by rw [HO.out]; exact TabR.no _ _, TN.below_set (TN.below_set (HB2.out) (by omega)) (by omega)⟩
    case hv5 =>
      have KF := block_set (block_set K12.out 0 (.slice none 0 0)) 1 (.slice none 0 0)
      clear k11 f11
      generalize ((w2.setCell ⟨w.heap.size + 1, 0, none⟩ (.slice none 0 0)).setCell ⟨w.heap.size + 1, 1, none⟩ (.slice none 0 0)) = WF at KF ⊢
      have kcf := block_cell KF
      clear KF
      simp [results, Try.results31, go_sem, kcf]
  have d2 : decide (n > 1000) = false := decide_eq_false (by omega)
  have c2b : ¬ n > 1000 := by omega
  by_cases c3 : 0 ≤ q
  case neg =>
    have d3 : decide (q < 0) = true := decide_eq_true (by omega)
    have c3b : q < 0 := by omega
    have hE : runE cs rs false = 1 := by unfold runE; rw [HZ0.out, if_pos hck]; rfl
    have hO : okE cs rs false = false := by unfold okE; rw [HZ0.out]; simp
    have HE := hid hE
    have HO := hid hO
    clear hE hO
    go_wp2_with fail
    refine bodyPost_ret (v := .tuple #[.agg #[.slice none 0 0, .slice none 0 0], .int .i64 1]) ?hv3 rfl ⟨_, by rw [HE.out], ⟨_, _, _, _, _, _, rfl⟩, by rw [HO.out]; exact TabR.no _ _, TN.below_set (TN.below_set (HB2.out) (by omega)) (by omega)⟩
    case hv3 =>
      have KF := block_set (block_set K12.out 0 (.slice none 0 0)) 1 (.slice none 0 0)
      clear k11 f11
      generalize ((w2.setCell ⟨w.heap.size + 1, 0, none⟩ (.slice none 0 0)).setCell ⟨w.heap.size + 1, 1, none⟩ (.slice none 0 0)) = WF at KF ⊢
      have kcf := block_cell KF
      clear KF
      simp [results, Try.results31, go_sem, kcf]
  have d3 : decide (q < 0) = false := decide_eq_false (by omega)
  have c3b : ¬ q < 0 := by omega
  obtain ⟨p, hp⟩ : ∃ p : Nat, q = p := ⟨q.toNat, by omega⟩
  have HPz := hid hp
  have hpl : p < cs.length := by have := HZl.out; omega
  have hpn : (p : Int) < nc := by have := HNC.out; omega
  obtain ⟨bc, oc, rfl, cell1⟩ : ∃ b o, pc = some ⟨b, o, none⟩ ∧ w2.cell? ⟨b, o + p * 2 + 1, none⟩ = some (.int .i64 (kdOf cs q)) := by
    obtain ⟨p', c', e', -, -, hx⟩ := HCo.out
    obtain ⟨b, o, hpp, -, hj⟩ := hx (by intro e; rw [e] at hpl; simp at hpl)
    subst hpp
    cases e'
    refine ⟨b, o, rfl, ?_⟩
    have := (TN.col_cells (hj p cs[p] (List.getElem?_eq_getElem hpl))).2
    unfold kdOf
    rw [HPz.out, Int.toNat_natCast, List.getD_eq_getElem?_getD, List.getElem?_eq_getElem hpl]
    exact this
  have ncI : (nc : Int) ≤ 9223372036854775807 := by
    obtain ⟨p', c', e', -, hm, -⟩ := HCo.out
    have := HNC.out
    unfold maxLen at hm
    omega
  subst hp
  have p0 : (0 : Int) ≤ p := by omega
  generalize kdOf cs p = kd at *
  have c4 : kd = 4 := Decidable.byContradiction fun e => by rw [HTB2.out, decide_eq_true ⟨c1, c2, p0, e⟩] at hbad; cases hbad
  have c4b : (kd == 4) = true := by simp [c4]
  have hE : runE cs rs false = 1 := by unfold runE; rw [HZ0.out, if_pos hck]; rfl
  have hO : okE cs rs false = false := by unfold okE; rw [HZ0.out]; simp
  have HE := hid hE
  have HO := hid hO
  clear hE hO
  go_wp2_with fail
  refine bodyPost_ret (v := .tuple #[.agg #[.slice none 0 0, .slice none 0 0], .int .i64 1]) ?hv4 rfl ⟨_, by rw [HE.out], ⟨_, _, _, _, _, _, rfl⟩, by rw [HO.out]; exact TabR.no _ _, TN.below_set (TN.below_set (HB2.out) (by omega)) (by omega)⟩
  case hv4 =>
    have KF := block_set (block_set K12.out 0 (.slice none 0 0)) 1 (.slice none 0 0)
    clear k11 f11
    generalize ((w2.setCell ⟨w.heap.size + 1, 0, none⟩ (.slice none 0 0)).setCell ⟨w.heap.size + 1, 1, none⟩ (.slice none 0 0)) = WF at KF ⊢
    have kcf := block_cell KF
    clear KF
    simp [results, Try.results31, go_sem, kcf]
end Go.Proofs.Ytcidijjbcebcbaa.RO
namespace Go.Proofs.Ytcidijjbcebcbaa.TN
open Go.RowKit Go.Sort Go.Shelf

theorem rcheck_is {v : Value} {cs : List Cl} {rs : List Rw} {w : World} {c : Int} (hv : TabAt w v cs rs) (h : checkV cs rs = c) :
    Calls Try.prog 32 #[v] w fun e w' => e = .returned (.int .i64 c) ∧ Below w.heap.size w w' := by rw [← h]; exact rcheck_any hv
theorem below_3 (w : World) (x y z : Obj) : Below w.heap.size w (((w.alloc x).alloc y).alloc z) := (((Below.refl _ w).alloc (Nat.le_refl _) x).alloc (by simp) y).alloc (by simp; omega) z
theorem blk_on {w : World} {b : Nat} {o : Obj} (h : w.heap[b]? = some o) (x : Obj) : (w.alloc x).heap[b]? = some o := block_on h ((Below.refl _ _).alloc (Nat.le_refl _) x)
end Go.Proofs.Ytcidijjbcebcbaa.TN
namespace Go.Proofs.Ytcidijjbcebcbaa.TN
open Go.RowKit Go.Sort Go.Shelf

theorem enters19 : ∀ args w, (callFunc 26 args).run Try.prog w = .ok (.enter 26 args) w := enters_of Try.func26 (by kernel_rfl) rfl
theorem nil_tab (w : World) : TabAt w (.agg #[.slice none 0 0, .slice none 0 0]) [] [] := ⟨_, _, rfl, SlAt.nil _ _ _ _, [], SlAt.nil _ _ _ _, ⟨rfl, fun j h r h1 _ => by simp at h1⟩⟩
theorem HeadsIn.app {Q : Nat → Prop} {w : World} {hs gs : List Value} {rs qs : List Rw} (h : HeadsIn Q w hs rs) (g : HeadsIn Q w gs qs) : HeadsIn Q w (hs ++ gs) (rs ++ qs) := by
  refine ⟨by simp [h.1, g.1], fun j x r h1 h2 => ?_⟩
  by_cases hlt : j < hs.length
  · rw [List.getElem?_append_left hlt] at h1
    rw [List.getElem?_append_left (by rw [← h.1]; exact hlt)] at h2
    exact h.2 j x r h1 h2
  · rw [List.getElem?_append_right (by omega)] at h1
    rw [List.getElem?_append_right (by rw [← h.1]; omega), ← h.1] at h2
    exact g.2 _ x r h1 h2
theorem made1_d (w : World) : Own one 1 33 w.heap.size (w.alloc (.cells #[] 33)).drew (.slice (some ⟨w.heap.size, 0, none⟩) 0 0) ([] : List Value) := Own.made one 1 33 w.heap.size w (Nat.le_refl _)
theorem far_set {w : World} {b R i : Nat} {u : Value} {o : Obj} (h : w.heap[b]? = some o) (hne : b ≠ R) : (w.setCell ⟨R, i, none⟩ u).heap[b]? = some o := (heap_setCell_other w ⟨R, i, none⟩ b u hne).trans h
theorem b3_0 (w : World) (a b c : Obj) : (((w.alloc a).alloc b).alloc c).heap[w.heap.size]? = some a := blk_on (alloc_blk1' w a b) c
theorem b3_1 (w : World) (a b c : Obj) : (((w.alloc a).alloc b).alloc c).heap[w.heap.size + 1]? = some b := blk_on (alloc_blk2' w a b) c
theorem b3_2 (w : World) (a b c : Obj) : (((w.alloc a).alloc b).alloc c).heap[w.heap.size + 1 + 1]? = some c := by
  have h := alloc_block ((w.alloc a).alloc b) c
  simp only [World.size_alloc] at h
  exact h
set_option maxRecDepth 100000 in
set_option maxHeartbeats 1000000 in
theorem runion_ok {s t : Value} {cs ds : List Cl} {rs qs : List Rw} {w : World} (hs : TabAt w s cs rs) (ht : TabAt w t ds qs) (hl : rs.length + qs.length ≤ 4096) (HCH : Hid (checkV cs rs = 0)) (HCH' : Hid (checkV ds qs = 0)) (heq : decide (cs = ds) = true) :
    Calls Try.prog 33 #[s, t] w fun e w' => ∃ v', e = .returned (.tuple #[v', .int .i64 0]) ∧ TabAt w' v' cs (sortR (rs ++ qs)) ∧ Below w.heap.size w w' := by
  have HS := hid hs
  have HT := hid ht
  obtain ⟨c, r, rfl, hc, hs1, hr, hh⟩ := hs
  obtain ⟨c', r', rfl, hc', hs2, hr', hh'⟩ := ht
  have HC := hid hc
  have HR := hid hr
  have HH := hid (heads_low hh)
  have HC' := hid hc'
  have HR' := hid hr'
  have HH' := hid (heads_low hh')
  have HLEN : Hid (hs1.length + hs2.length ≤ 4096) := by rw [hh.1, hh'.1]; exact hl
  obtain ⟨pc, capc, rfl, -⟩ := hc
  obtain ⟨pr, capr, rfl, -⟩ := hr
  obtain ⟨pc', capc', rfl, -⟩ := hc'
  obtain ⟨pr', capr', rfl, -⟩ := hr'
  clear hl hh hh'
  generalize cs.length = nc at *
  generalize hnr : hs1.length = nr at *
  generalize ds.length = nc' at *
  generalize hnr' : hs2.length = nr' at *
  have HNR := hid hnr
  have HNR' := hid hnr'
  clear hnr hnr'
  have K0 := hid (b3_0 w (.cells #[.slice pc nc capc, .slice pr nr capr] 28) (.cells #[.slice pc' nc' capc', .slice pr' nr' capr'] 28) (.cells #[.slice none 0 0, .slice none 0 0] 28))
  have K1 := hid (b3_1 w (.cells #[.slice pc nc capc, .slice pr nr capr] 28) (.cells #[.slice pc' nc' capc', .slice pr' nr' capr'] 28) (.cells #[.slice none 0 0, .slice none 0 0] 28))
  have K2 := hid (b3_2 w (.cells #[.slice pc nc capc, .slice pr nr capr] 28) (.cells #[.slice pc' nc' capc', .slice pr' nr' capr'] 28) (.cells #[.slice none 0 0, .slice none 0 0] 28))
  have HB := hid (below_3 w (.cells #[.slice pc nc capc, .slice pr nr capr] 28) (.cells #[.slice pc' nc' capc', .slice pr' nr' capr'] 28) (.cells #[.slice none 0 0, .slice none 0 0] 28))
  have M1 : Hid True := trivial
  have M2 : Hid True := trivial
  go_enter Try.func33, Try.ntmps33
  go_wp2_with (first | (go_at_call 32; clear M1; refine (rcheck_is (HS.out.on HB.out) HCH.out).mono ?_; rintro e w1 ⟨rfl, hb1⟩; have HB1 := hid (below_on HB.out hb1); have K01 := hid (block_on K0.out hb1); have K11 := hid (block_on K1.out hb1); have KR := hid (block_on K2.out hb1); have kr := block_cell KR.out; have fr := frozen_no KR.out; have k11 := block_cell K11.out; clear hb1) | (go_at_call 32; clear M2; refine (rcheck_is (HT.out.on HB1.out) HCH'.out).mono ?_; rintro e w4 ⟨rfl, hb4⟩; have HB4 := hid (below_on HB1.out hb4); have K04 := hid (block_on K01.out hb4); have K14 := hid (block_on K11.out hb4); replace KR := hid (block_on KR.out hb4); clear kr fr k11 hb4; have kr := block_cell KR.out; have fr := frozen_no KR.out; have k04 := block_cell K04.out; have k14 := block_cell K14.out) | (go_at_call 41; refine (samecols_is (HC.out.on HB4.out) (HC'.out.on HB4.out) heq).mono ?_; rintro e w5 ⟨rfl, hb5⟩; have HB5 := hid (below_on HB4.out hb5); have K05 := hid (block_on K04.out hb5); have K15 := hid (block_on K14.out hb5); replace KR := hid (block_on KR.out hb5); clear kr fr k04 k14 hb5; have kr := block_cell KR.out; have fr := frozen_no KR.out))
  clear kr fr
  have k05 := block_cell K05.out
  have k15 := block_cell K15.out
  have ka0 : ∀ (A : Obj) (j : Nat), (w5.alloc A).cell? ⟨w.heap.size, j, none⟩ = (#[.slice pc nc capc, .slice pr nr capr] : Array Value)[j]? := fun A j => block_cell (block_on K05.out ((Below.refl _ w5).alloc (Nat.le_refl _) A)) j
  have ka1 : ∀ (A : Obj) (j : Nat), (w5.alloc A).cell? ⟨w.heap.size + 1, j, none⟩ = (#[.slice pc' nc' capc', .slice pr' nr' capr'] : Array Value)[j]? := fun A j => block_cell (block_on K15.out ((Below.refl _ w5).alloc (Nat.le_refl _) A)) j
  have l5 : w.heap.size + 1 + 1 < w5.heap.size := lt_of_block KR.out
  clear HS HT
  clear k05 k15 ka0 ka1
  refine wp_region_held_drew (S := fun w' => w'.heap[w.heap.size]? = some (.cells #[.slice pc nc capc, .slice pr nr capr] 28 (0, 0)) ∧ w'.heap[w.heap.size + 1]? = some (.cells #[.slice pc' nc' capc', .slice pr' nr' capr'] 28 (0, 0))) (by kernel_rfl) ⟨K05.out, K15.out⟩ (fun hH => ?_)
  refine wpAnyH_take (i := 0) (oi := { dst := some 24, op := .fieldAddr 28 (.tmp 2) 0, type := 0, pos := "ref.go:146", after := #[], guard := none }) (v := .pointer (some ⟨w.heap.size, 0, none⟩)) rfl (by kernel_rfl) (by kernel_rfl) (by kernel_rfl) (fun _ _ _ h => h) (Or.inl ⟨by rfl, ?hy⟩) hH ?rest
  case hy =>
    intro w' hS'
    have k0 := block_cell hS'.1
    have k1 := block_cell hS'.2
    go_simp
  case rest =>
  simp only [Act.put, List.setIfInBounds_toArray, List.set_cons_zero, List.set_cons_succ]
  refine wpAnyH_take (i := 1) (oi := { dst := some 25, op := .load 25 (.tmp 24), type := 25, pos := "ref.go:146", after := #[{ on := 0, ground := .data }], guard := none }) (v := .slice pc nc capc) rfl (by kernel_rfl) (by kernel_rfl) (by kernel_rfl) (fun _ _ _ h => h) (Or.inl ⟨by rfl, ?hy⟩) hH ?rest
  case hy =>
    intro w' hS'
    have k0 := block_cell hS'.1
    have k1 := block_cell hS'.2
    go_simp
  case rest =>
  simp only [Act.put, List.setIfInBounds_toArray, List.set_cons_zero, List.set_cons_succ]
  refine wpAnyH_take (i := 3) (oi := { dst := some 27, op := .fieldAddr 28 (.tmp 2) 1, type := 0, pos := "ref.go:146", after := #[], guard := none }) (v := .pointer (some ⟨w.heap.size, 1, none⟩)) rfl (by kernel_rfl) (by kernel_rfl) (by kernel_rfl) (fun _ _ _ h => h) (Or.inl ⟨by rfl, ?hy⟩) hH ?rest
  case hy =>
    intro w' hS'
    have k0 := block_cell hS'.1
    have k1 := block_cell hS'.2
    go_simp
  case rest =>
  simp only [Act.put, List.setIfInBounds_toArray, List.set_cons_zero, List.set_cons_succ]
  refine wpAnyH_take (i := 4) (oi := { dst := some 28, op := .load 26 (.tmp 27), type := 26, pos := "ref.go:146", after := #[{ on := 3, ground := .data }], guard := none }) (v := .slice pr nr capr) rfl (by kernel_rfl) (by kernel_rfl) (by kernel_rfl) (fun _ _ _ h => h) (Or.inl ⟨by rfl, ?hy⟩) hH ?rest
  case hy =>
    intro w' hS'
    have k0 := block_cell hS'.1
    have k1 := block_cell hS'.2
    go_simp
  case rest =>
  simp only [Act.put, List.setIfInBounds_toArray, List.set_cons_zero, List.set_cons_succ]
  refine wpAnyH_take (i := 6) (oi := { dst := some 30, op := .fieldAddr 28 (.tmp 3) 1, type := 0, pos := "ref.go:146", after := #[], guard := none }) (v := .pointer (some ⟨w.heap.size + 1, 1, none⟩)) rfl (by kernel_rfl) (by kernel_rfl) (by kernel_rfl) (fun _ _ _ h => h) (Or.inl ⟨by rfl, ?hy⟩) hH ?rest
  case hy =>
    intro w' hS'
    have k0 := block_cell hS'.1
    have k1 := block_cell hS'.2
    go_simp
  case rest =>
  simp only [Act.put, List.setIfInBounds_toArray, List.set_cons_zero, List.set_cons_succ]
  refine wpAnyH_take (i := 7) (oi := { dst := some 31, op := .load 26 (.tmp 30), type := 26, pos := "ref.go:146", after := #[{ on := 6, ground := .data }], guard := none }) (v := .slice pr' nr' capr') rfl (by kernel_rfl) (by kernel_rfl) (by kernel_rfl) (fun _ _ _ h => h) (Or.inl ⟨by rfl, ?hy⟩) hH ?rest
  case hy =>
    intro w' hS'
    have k0 := block_cell hS'.1
    have k1 := block_cell hS'.2
    go_simp
  case rest =>
  simp only [Act.put, List.setIfInBounds_toArray, List.set_cons_zero, List.set_cons_succ]
  refine wpAnyH_ready (rs := [2]) (by kernel_rfl) (by simp) ?_
  refine AllReadyH.cons (o := { dst := some 26, op := .buildSlice 26 0 #[], type := 26, pos := "ref.go:146", after := #[], guard := none }) rfl (fun K hK => ?_) AllReadyH.nil
  go_simp
  refine hK.out _ _ ⟨blk_on hH.1 _, blk_on hH.2 _⟩ (fun hH => ?_)
  clear hK
  refine wpAnyH_ready (rs := [5]) (by kernel_rfl) (by simp) ?_
  refine AllReadyH.cons (o := { dst := some 29, op := .call { callee := .builtin .append, args := #[.tmp 26, .tmp 28], argTypes := #[26, 26] }, type := 26, pos := "ref.go:146", after := #[{ on := 2, ground := .data }, { on := 4, ground := .data }], guard := none }) rfl (fun K hK => ?_) AllReadyH.nil
  refine step_app elem35 one_len (heads_cells HH.out) rfl (.tmp 26) (.tmp 28) rfl (by simp [Act.eval]; try rfl) (by simp [Act.eval]; try rfl) (made1_d w5) (SlAt.on HR.out (below_on HB5.out (below_ad w5 _))) (small1 (by simp; have := HLEN.out; rw [HNR.out]; omega)) (by simp) ?_
  intro v2 w2 hown2 hb2 hg2
  rw [List.nil_append] at hown2
  have HO2 := hid hown2
  have HB2 := hid ((below_ad w5 _).trans hb2)
  clear hown2 hb2 hg2
  refine hK.out _ _ ⟨block_on K05.out HB2.out, block_on K15.out HB2.out⟩ (fun hH => ?_)
  clear hK
  simp only [Act.put, List.setIfInBounds_toArray, List.set_cons_zero, List.set_cons_succ]
  refine wpAnyH_ready (rs := [8]) (by kernel_rfl) (by simp) ?_
  refine AllReadyH.cons (o := { dst := some 32, op := .call { callee := .builtin .append, args := #[.tmp 29, .tmp 31], argTypes := #[26, 26] }, type := 26, pos := "ref.go:146", after := #[{ on := 5, ground := .data }, { on := 7, ground := .data }, { on := 5, ground := .chain }], guard := none }) rfl (fun K hK => ?_) AllReadyH.nil
  refine step_app elem35 one_len (heads_cells HH'.out) rfl (.tmp 29) (.tmp 31) rfl (by simp [Act.eval]; try rfl) (by simp [Act.eval]; try rfl) HO2.out (SlAt.on HR'.out (below_on HB5.out HB2.out)) (small1 (by have := HLEN.out; rw [HNR.out, HNR'.out]; omega)) HB2.out.size ?_
  intro v3 w3 hown3 hb3 hg3
  have hsl := Own.sl hown3 one_len (small1 (by rw [List.length_append, HNR.out, HNR'.out]; exact HLEN.out))
  obtain ⟨pr3, capr3, rfl, -⟩ := id hsl
  have HS3 := hid (hsl.imp (Q' := any) (fun _ _ => trivial))
  rw [show (hs1 ++ hs2).length = nr + nr' by rw [List.length_append, HNR.out, HNR'.out]] at HS3 ⊢
  have HB3 := hid (HB2.out.trans hb3)
  clear hown3 hb3 hg3 hsl
  refine hK.out _ _ ⟨block_on K05.out HB3.out, block_on K15.out HB3.out⟩ (fun hH => ?_)
  clear hK
  simp only [Act.put, List.setIfInBounds_toArray, List.set_cons_zero, List.set_cons_succ]
  refine wpAnyH_take (i := 9) (oi := { dst := some 33, op := .build 28 #[(0, .tmp 25), (1, .tmp 32)], type := 28, pos := "ref.go:146", after := #[{ on := 1, ground := .data }, { on := 8, ground := .data }], guard := none }) (v := .agg #[.slice pc nc capc, .slice pr3 (nr + nr') capr3]) rfl (by kernel_rfl) (by kernel_rfl) (by kernel_rfl) (fun _ _ _ h => h) (Or.inl ⟨by rfl, ?hy⟩) hH ?rest
  case hy =>
    intro w' hS'
    have k0 := block_cell hS'.1
    have k1 := block_cell hS'.2
    go_simp
  case rest =>
  simp only [Act.put, List.setIfInBounds_toArray, List.set_cons_zero, List.set_cons_succ]
  refine wpAnyH_ready (rs := [10]) (by kernel_rfl) (by simp) ?_
  refine AllReadyH.cons (o := { dst := some 34, op := .call { callee := .value (.func 26), args := #[.tmp 33], argTypes := #[28] }, type := 28, pos := "ref.go:146", after := #[{ on := 9, ground := .data }, { on := 8, ground := .chain }], guard := none }) rfl (fun K hK => ?_) AllReadyH.nil
  refine step_call rfl (.tmp 33) 28 rfl (by simp [Act.eval]; try rfl) enters19 ?_
  refine (rcanon_q (Q := fun b => b < w.heap.size) (fun b hb => Nat.lt_of_lt_of_le hb (Nat.le_trans HB5.out.size HB3.out.size)) (HC.out.on (below_on HB5.out HB3.out)) HS3.out (HeadsIn.app (HH.out.on (below_on HB5.out HB3.out)) (HH'.out.on (below_on HB5.out HB3.out)))).mono ?_
  rintro e w6 ⟨c6, r6, hs6, rfl, h61, h62, h63, hb6⟩
  refine ⟨_, rfl, ?_⟩
  have GC := hid h61
  have GR := hid h62
  obtain ⟨pc6, capc6, rfl, -⟩ := h61
  obtain ⟨pr6, capr6, rfl, -⟩ := h62
  have GH := hid h63
  have GB := hid (below_on HB3.out hb6)
  have KF := hid (block_on KR.out GB.out)
  have kf := block_cell KF.out
  have ff := frozen_no KF.out
  have l3 := HB3.out.size
  clear h63 hb6
  refine hK.out _ _ ⟨block_on K05.out GB.out, block_on K15.out GB.out⟩ (fun hH => ?_)
  clear hK
  simp only [Act.put, List.setIfInBounds_toArray, List.set_cons_zero, List.set_cons_succ]
  refine wpAnyH_ready (rs := [11]) (by kernel_rfl) (by simp) ?_
  refine AllReadyH.cons (o := { dst := none, op := .store 28 (.tmp 4) (.tmp 34), type := 0, pos := "ref.go:146", after := #[{ on := 10, ground := .data }, { on := 10, ground := .chain }, { on := 0, ground := .phase }, { on := 1, ground := .phase }, { on := 2, ground := .phase }, { on := 3, ground := .phase }, { on := 4, ground := .phase }, { on := 5, ground := .phase }, { on := 6, ground := .phase }, { on := 7, ground := .phase }, { on := 8, ground := .phase }, { on := 9, ground := .phase }, { on := 10, ground := .phase }], guard := none }) rfl (fun K hK => ?_) AllReadyH.nil
  go_simp
  refine hK.out _ _ ⟨far_set (far_set hH.1 (by omega)) (by omega), far_set (far_set hH.2 (by omega)) (by omega)⟩ (fun hH => ?_)
  clear hK
  refine wpAnyH_ready (rs := [12]) (by kernel_rfl) (by simp) ?_
  refine AllReadyH.cons (o := { dst := some 5, op := .assign (.const (.int .i64 0)), type := 42, pos := "ref.go:146", after := #[{ on := 11, ground := .chain }, { on := 0, ground := .phase }, { on := 1, ground := .phase }, { on := 2, ground := .phase }, { on := 3, ground := .phase }, { on := 4, ground := .phase }, { on := 5, ground := .phase }, { on := 6, ground := .phase }, { on := 7, ground := .phase }, { on := 8, ground := .phase }, { on := 9, ground := .phase }, { on := 10, ground := .phase }, { on := 11, ground := .phase }], guard := none }) rfl (fun K hK => ?_) AllReadyH.nil
  go_simp
  refine hK.out _ _ hH (fun hH => ?_)
  clear hK
  refine wpAnyH_done (by kernel_rfl) ?_ _
  all_goals
    go_wp2
    refine bodyPost_ret (v := .tuple #[.agg #[.slice pc6 cs.length capc6, .slice pr6 hs6.length capr6], .int .i64 0]) ?_ rfl ⟨_, rfl, ?_, ?_⟩
    · have KF2 := Joins.block_setCell (i := 1) (Joins.block_setCell (i := 0) KF.out (.slice pc6 cs.length capc6)) (.slice pr6 hs6.length capr6)
      clear kf ff
      generalize ((w6.setCell ⟨w.heap.size + 1 + 1, 0, none⟩ (.slice pc6 cs.length capc6)).setCell ⟨w.heap.size + 1 + 1, 1, none⟩ (.slice pr6 hs6.length capr6)) = WF at KF2 ⊢
      have kcf := block_cell KF2
      clear KF2
      simp [results, Try.results33, go_sem, kcf]
    · exact ⟨_, _, rfl, SlAt.imp (SlAt.set (fun b hb => by omega) (SlAt.set (fun b hb => by omega) GC.out)) (fun _ _ => trivial), hs6, SlAt.imp (SlAt.set (fun b hb => by omega) (SlAt.set (fun b hb => by omega) GR.out)) (fun _ _ => trivial), HeadsIn.imp (HeadsIn.set (fun b hb => by omega) (HeadsIn.set (fun b hb => by omega) GH.out)) (fun _ _ => trivial)⟩
    · exact below_set (below_set (below_on HB5.out GB.out) (by omega)) (by omega)
end Go.Proofs.Ytcidijjbcebcbaa.TN
