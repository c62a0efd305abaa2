/-
  What Align tells.
  What Go's slices.Concat returns of two slices of rows.
  What the statements' small (a table of columns k and n) returns.
-/
import Derived.Test.YtcidijjbcebcbaaGreatKF13
import Derived.Test.YtcidijjbcebcbaaGreatKF17
import Derived.Test.YtcidijjbcebcbaaGreatKF26
import Derived.Laws.EntriesVeiled
import Derived.Lib.OwnKind
import Derived.Deep.RegionLaw
namespace Go.Proofs.YtcidijjbcebcbaaGreat.RO
open Go.RowKit Go.Joins Go.Sort

def tmB : ByteArray := ⟨#[116, 105, 109, 101]⟩
def alB (cs : List TN.Cl) (wd : Int) : Bool := decide (1 ≤ wd ∧ 0 ≤ TN.findC cs tmB ∧ kdOf cs (TN.findC cs tmB) = 1)
theorem enters_align1 : ∀ args w, (callFunc 21 args).run Tryz.prog w = .ok (.enter 21 args) w := enters_of Tryz.func21 (by kernel_rfl) rfl
/- All numbers of a table are int's. -/
def NumsIn (rs : List TN.Rw) : Prop := ∀ r ∈ rs, ∀ v ∈ r, InI v.n
theorem key_mem {p : Nat} {r : TN.Rw} (h : p < r.length) : key p r ∈ r := by unfold key; rw [List.getD_eq_getElem?_getD, List.getElem?_eq_getElem h]; exact List.getElem_mem h
set_option maxRecDepth 100000 in
set_option maxHeartbeats 4000000 in
theorem align_any {tv : Value} {cs : List TN.Cl} {rs : List TN.Rw} {n : Int} {w : World} (ht : TN.TabAt w tv cs rs) (hn : InI n) (hni : NumsIn rs) (hrl : rs.length ≤ 1000000) : Calls Tryz.prog 9 #[tv, .int .i64 n] w fun e w' => ∃ v', e = .returned (.tuple #[v', .int .i64 (runE cs rs (alB cs n))]) ∧ TabE (okE cs rs (alB cs n)) w w' v' cs (TN.sortR (rs.map (alR (TN.findC cs tmB).toNat n))) ∧ Below w.heap.size w w' := by
  obtain ⟨c, rv, rfl, hc, hs, hr, hh⟩ := ht
  have HT := hid (show TN.TabAt w (.agg #[c, rv]) cs rs from ⟨c, rv, rfl, hc, hs, hr, hh⟩)
  have HC := hid hc
  obtain ⟨pc, cc, rfl, -⟩ := id hc
  obtain ⟨pr, cr, rfl, -⟩ := id hr
  clear hc hr hh
  generalize hncs : cs.length = nc at *
  generalize hs.length = nr at *
  have HNC := hid hncs
  obtain ⟨O0, hO0⟩ : ∃ O, O = Obj.cells #[.slice pc nc cc, .slice pr nr cr] 25 (0, 0) := ⟨_, rfl⟩
  obtain ⟨O1, hO1⟩ : ∃ O, O = Obj.cells #[.int .i64 n] 3 (0, 0) := ⟨_, rfl⟩
  obtain ⟨O2, hO2⟩ : ∃ O, O = Obj.cells #[.slice none 0 0, .slice none 0 0] 25 (0, 0) := ⟨_, rfl⟩
  have hb1 : Below w.heap.size w (w.alloc O0) := (Below.refl _ _).alloc (Nat.le_refl _) _
  have hb2 : Below w.heap.size w ((w.alloc O0).alloc O1) := hb1.alloc hb1.size _
  have hb3 : Below w.heap.size w (((w.alloc O0).alloc O1).alloc O2) := hb2.alloc hb2.size _
  have k0 := block_on (block_on (alloc_block w O0) ((Below.refl _ _).alloc (Nat.le_refl _) O1)) ((Below.refl _ _).alloc (Nat.le_refl _) O2)
  have k1 := block_on (TN.alloc_blk2 w O0 O1) ((Below.refl _ _).alloc (Nat.le_refl _) O2)
  have k2 : (((w.alloc O0).alloc O1).alloc O2).heap[w.heap.size + 1 + 1]? = some O2 := by have := alloc_block ((w.alloc O0).alloc O1) O2; simpa using this
  obtain ⟨W, hW⟩ : ∃ W, W = ((w.alloc O0).alloc O1).alloc O2 := ⟨_, rfl⟩
  rw [← hW] at hb3 k0 k1 k2
  rw [hO0] at k0
  rw [hO1] at k1
  rw [hO2] at k2
  have HW := hid hW
  rw [hO0, hO1, hO2] at HW
  have HB := hid hb3
  have K0 := hid k0
  have K1 := hid k1
  have K2 := hid k2
  have y0 := block_cell k0
  clear hW hO0 hO1 hO2 hb1 hb2 hb3 k0 k1 k2 hncs
  go_enter Tryz.func9, Tryz.ntmps9
  go_upto_region 1 with fail
  rw [← HW.out]
  clear HW
  go_upto_region 2 with (first | (go_at_call 20; refine (TN.find_any (nm := tmB) (HC.out.on HB.out)).mono ?_; rintro e w1 ⟨rfl, hb1⟩; have HB1 := hid hb1; clear hb1))
  have hb2 : Below w1.heap.size w1 (w1.alloc (.cells #[.int .i64 (TN.findC cs tmB)] 3)) := (Below.refl _ _).alloc (Nat.le_refl _) _
  have k3 := alloc_block w1 (.cells #[.int .i64 (TN.findC cs tmB)] 3)
  have HB2 := hid (TN.below_on (TN.below_on HB.out HB1.out) hb2)
  have K02 := hid (block_on (block_on K0.out HB1.out) hb2)
  have K12 := hid (block_on (block_on K1.out HB1.out) hb2)
  have K22 := hid (block_on (block_on K2.out HB1.out) hb2)
  have K32 := hid k3
  have hR2 := lt_of_block K22.out
  have hW2 := HB2.out.size
  obtain ⟨ba, hba⟩ : ∃ b, b = w1.heap.size := ⟨_, rfl⟩
  rw [← hba] at hb2 k3 K32
  rw [← hba]
  have HZl := hid (TN.findC_lt cs tmB)
  generalize w1.alloc (.cells #[.int .i64 (TN.findC cs tmB)] 3) = w2 at *
  have HTB2 : Hid (alB cs n = decide (1 ≤ n ∧ 0 ≤ TN.findC cs tmB ∧ kdOf cs (TN.findC cs tmB) = 1)) := rfl
  generalize hz : TN.findC cs tmB = z at *
  have HZE := hid hz
  have y02 := block_cell K02.out
  have y12 := block_cell K12.out
  have y32 := block_cell K32.out
  have HCo := hid (HC.out.on HB2.out)
  have HNI := hid hni
  have HNn := hid hn
  clear y0 hb2 k3 hba hz hni hn
  by_cases c1 : 1 ≤ n
  case neg =>
    have d1 : decide (1 ≤ n) = false := decide_eq_false c1
    have hB : alB cs n = false := by rw [HTB2.out]; exact decide_eq_false (fun h => c1 h.1)
    have HRn := hid (run_any (mb := false) (cs' := cs) (rs' := rs.map (alR z.toNat n)) (cb := #[.pointer (some ⟨w.heap.size, 0, none⟩), .pointer (some ⟨ba, 0, none⟩), .pointer (some ⟨w.heap.size + 1, 0, none⟩)]) (g := 21) (HT.out.on HB2.out) enters_align1 (fun h => by cases h))
    have HBB := hid hB
    clear hB
    go_wp2_with (first | (go_at_call 12; refine HRn.out.mono ?_; rintro e w3 ⟨v3, rfl, ht3, hb3⟩; have HT3 := hid ht3; have HB3 := hid hb3; have K23 := hid (block_on K22.out hb3); have y23 := block_cell K23.out; have x23 := block_frozen K23.out; obtain ⟨pc3, n3, cc3, pr3, m3, cr3, rfl⟩ := tabE_form ht3; clear ht3 hb3))
    refine bodyPost_ret (v := .tuple #[.agg #[.slice pc3 n3 cc3, .slice pr3 m3 cr3], .int .i64 (runE cs rs false)]) ?hv1 rfl ⟨_, by rw [HBB.out], by rw [HBB.out, HZE.out]; exact tabE_set HT3.out hR2 hW2, TN.below_set (TN.below_set (TN.below_on HB2.out HB3.out) (by omega)) (by omega)⟩
    case hv1 =>
      have KF := block_set (block_set K23.out 0 (.slice pc3 n3 cc3)) 1 (.slice pr3 m3 cr3)
      clear y23 x23
      generalize ((w3.setCell ⟨w.heap.size + 1 + 1, 0, none⟩ (.slice pc3 n3 cc3)).setCell ⟨w.heap.size + 1 + 1, 1, none⟩ (.slice pr3 m3 cr3)) = WF at KF ⊢
      have kcf := block_cell KF
      clear KF
      simp [results, Tryz.results9, go_sem, kcf]
  by_cases c3 : 0 ≤ z
  case neg =>
    have d1 : decide (1 ≤ n) = true := decide_eq_true c1
    have d3 : decide (0 ≤ z) = false := decide_eq_false c3
    have hB : alB cs n = false := by rw [HTB2.out]; exact decide_eq_false (fun h => c3 h.2.1)
    have HRn := hid (run_any (mb := false) (cs' := cs) (rs' := rs.map (alR z.toNat n)) (cb := #[.pointer (some ⟨w.heap.size, 0, none⟩), .pointer (some ⟨ba, 0, none⟩), .pointer (some ⟨w.heap.size + 1, 0, none⟩)]) (g := 21) (HT.out.on HB2.out) enters_align1 (fun h => by cases h))
    have HBB := hid hB
    clear hB
    go_wp2_with (first | (go_at_call 12; refine HRn.out.mono ?_; rintro e w3 ⟨v3, rfl, ht3, hb3⟩; have HT3 := hid ht3; have HB3 := hid hb3; have K23 := hid (block_on K22.out hb3); have y23 := block_cell K23.out; have x23 := block_frozen K23.out; obtain ⟨pc3, n3, cc3, pr3, m3, cr3, rfl⟩ := tabE_form ht3; clear ht3 hb3))
    refine bodyPost_ret (v := .tuple #[.agg #[.slice pc3 n3 cc3, .slice pr3 m3 cr3], .int .i64 (runE cs rs false)]) ?hv2 rfl ⟨_, by rw [HBB.out], by rw [HBB.out, HZE.out]; exact tabE_set HT3.out hR2 hW2, TN.below_set (TN.below_set (TN.below_on HB2.out HB3.out) (by omega)) (by omega)⟩
    case hv2 =>
      have KF := block_set (block_set K23.out 0 (.slice pc3 n3 cc3)) 1 (.slice pr3 m3 cr3)
      clear y23 x23
      generalize ((w3.setCell ⟨w.heap.size + 1 + 1, 0, none⟩ (.slice pc3 n3 cc3)).setCell ⟨w.heap.size + 1 + 1, 1, none⟩ (.slice pr3 m3 cr3)) = WF at KF ⊢
      have kcf := block_cell KF
      clear KF
      simp [results, Tryz.results9, go_sem, kcf]
  have d1 : decide (1 ≤ n) = true := decide_eq_true c1
  have d3 : decide (0 ≤ z) = true := decide_eq_true c3
  obtain ⟨p, hp⟩ : ∃ p : Nat, z = p := ⟨z.toNat, by omega⟩
  have HPz := hid hp
  have hpl : p < cs.length := by have := HZl.out; omega
  have hpn : (p : Int) < nc := by have := HNC.out; omega
  obtain ⟨bc, oc, rfl, cell1⟩ : ∃ b o, pc = some ⟨b, o, none⟩ ∧ w2.cell? ⟨b, o + p * 2 + 1, none⟩ = some (.int .i64 (kdOf cs z)) := by
    obtain ⟨p', c', e', -, -, hx⟩ := HCo.out
    obtain ⟨b, o, hpp, -, hj⟩ := hx (by intro e; rw [e] at hpl; simp at hpl)
    subst hpp
    cases e'
    refine ⟨b, o, rfl, ?_⟩
    have := (TN.col_cells (hj p cs[p] (List.getElem?_eq_getElem hpl))).2
    unfold kdOf
    rw [HPz.out, Int.toNat_natCast, List.getD_eq_getElem?_getD, List.getElem?_eq_getElem hpl]
    exact this
  have ncI : (nc : Int) ≤ 9223372036854775807 := by
    obtain ⟨p', c', e', -, hm, -⟩ := HCo.out
    have := HNC.out
    unfold maxLen at hm
    omega
  subst hp
  have p0 : (0 : Int) ≤ p := by omega
  generalize kdOf cs p = kd at *
  by_cases c4 : kd = 1
  case pos =>
    have c4b : (kd == 1) = true := by simp [c4]
    have hB0 := HTB2.out
    have hB : alB cs n = true := by rw [hB0]; exact decide_eq_true ⟨c1, p0, c4⟩
    have HRn := hid (run_any (mb := true) (cs' := cs) (rs' := rs.map (alR (p : Int).toNat n)) (cb := #[.pointer (some ⟨w.heap.size, 0, none⟩), .pointer (some ⟨ba, 0, none⟩), .pointer (some ⟨w.heap.size + 1, 0, none⟩)]) (g := 21) (HT.out.on HB2.out) enters_align1 (fun _ hck W hbW => align1_any (p := p) (wd := n) (HT.out.on (TN.below_on HB2.out hbW)) (block_cell (block_on K02.out hbW) 0) (block_cell (block_on K02.out hbW) 1) (block_cell (block_on K32.out hbW) 0) (block_cell (block_on K12.out hbW) 0) (fun r hr => by obtain ⟨q1, q2⟩ := rows_len hck; have := q2 r hr; omega) (fun r hr => by obtain ⟨q1, q2⟩ := rows_len hck; have := q2 r hr; exact HNI.out r hr _ (key_mem (by omega))) ⟨c1, HNn.out.2⟩ hrl))
    have HBB := hid hB
    clear hB
    go_wp2_with (first | (go_at_call 12; refine HRn.out.mono ?_; rintro e w3 ⟨v3, rfl, ht3, hb3⟩; have HT3 := hid ht3; have HB3 := hid hb3; have K23 := hid (block_on K22.out hb3); have y23 := block_cell K23.out; have x23 := block_frozen K23.out; obtain ⟨pc3, n3, cc3, pr3, m3, cr3, rfl⟩ := tabE_form ht3; clear ht3 hb3))
    refine bodyPost_ret (v := .tuple #[.agg #[.slice pc3 n3 cc3, .slice pr3 m3 cr3], .int .i64 (runE cs rs true)]) ?hv3 rfl ⟨_, by rw [HBB.out], by rw [HBB.out, HZE.out]; exact tabE_set HT3.out hR2 hW2, TN.below_set (TN.below_set (TN.below_on HB2.out HB3.out) (by omega)) (by omega)⟩
    case hv3 =>
      have KF := block_set (block_set K23.out 0 (.slice pc3 n3 cc3)) 1 (.slice pr3 m3 cr3)
      clear y23 x23
      generalize ((w3.setCell ⟨w.heap.size + 1 + 1, 0, none⟩ (.slice pc3 n3 cc3)).setCell ⟨w.heap.size + 1 + 1, 1, none⟩ (.slice pr3 m3 cr3)) = WF at KF ⊢
      have kcf := block_cell KF
      clear KF
      simp [results, Tryz.results9, go_sem, kcf]
  case neg =>
    have c4b : (kd == 1) = false := by simp [c4]
    have hB0 := HTB2.out
    have hB : alB cs n = false := by rw [hB0]; exact decide_eq_false (fun h => c4 h.2.2)
    have HRn := hid (run_any (mb := false) (cs' := cs) (rs' := rs.map (alR (p : Int).toNat n)) (cb := #[.pointer (some ⟨w.heap.size, 0, none⟩), .pointer (some ⟨ba, 0, none⟩), .pointer (some ⟨w.heap.size + 1, 0, none⟩)]) (g := 21) (HT.out.on HB2.out) enters_align1 (fun h => by cases h))
    have HBB := hid hB
    clear hB
    go_wp2_with (first | (go_at_call 12; refine HRn.out.mono ?_; rintro e w3 ⟨v3, rfl, ht3, hb3⟩; have HT3 := hid ht3; have HB3 := hid hb3; have K23 := hid (block_on K22.out hb3); have y23 := block_cell K23.out; have x23 := block_frozen K23.out; obtain ⟨pc3, n3, cc3, pr3, m3, cr3, rfl⟩ := tabE_form ht3; clear ht3 hb3))
    refine bodyPost_ret (v := .tuple #[.agg #[.slice pc3 n3 cc3, .slice pr3 m3 cr3], .int .i64 (runE cs rs false)]) ?hv4 rfl ⟨_, by rw [HBB.out], by rw [HBB.out, HZE.out]; exact tabE_set HT3.out hR2 hW2, TN.below_set (TN.below_set (TN.below_on HB2.out HB3.out) (by omega)) (by omega)⟩
    case hv4 =>
      have KF := block_set (block_set K23.out 0 (.slice pc3 n3 cc3)) 1 (.slice pr3 m3 cr3)
      clear y23 x23
      generalize ((w3.setCell ⟨w.heap.size + 1 + 1, 0, none⟩ (.slice pc3 n3 cc3)).setCell ⟨w.heap.size + 1 + 1, 1, none⟩ (.slice pr3 m3 cr3)) = WF at KF ⊢
      have kcf := block_cell KF
      clear KF
      simp [results, Tryz.results9, go_sem, kcf]
end Go.Proofs.YtcidijjbcebcbaaGreat.RO
namespace Go.Proofs
open Go.Shelf
end Go.Proofs
namespace Go.Proofs.YtcidijjbcebcbaaGreat.TN
open Go.RowKit Go.Sort Go.Shelf

theorem heads_one {Q : Nat → Prop} {w : World} {hs : List Value} {rs : List Rw} (h : HeadsIn Q w hs rs) : ∀ y ∈ hs, ∀ c ∈ one y, c.oneCell' = true := by
  intro y hy c hc
  simp [one] at hc
  subst hc
  obtain ⟨i, hi⟩ := List.getElem?_of_mem hy
  have hl : i < hs.length := (List.getElem?_eq_some_iff.1 hi).1
  have hl' : i < rs.length := by rw [← h.1]; exact hl
  exact slice_one (h.2 i c _ hi (List.getElem?_eq_getElem hl'))
theorem heads_append {Q : Nat → Prop} {w : World} {hs ks : List Value} {rs qs : List Rw} (h : HeadsIn Q w hs rs) (k : HeadsIn Q w ks qs) : HeadsIn Q w (hs ++ ks) (rs ++ qs) := by
  refine ⟨by simp [h.1, k.1], fun j x r hx hr => ?_⟩
  by_cases hj : j < hs.length
  · rw [List.getElem?_append_left hj] at hx
    rw [List.getElem?_append_left (by rw [← h.1]; exact hj)] at hr
    exact h.2 j x r hx hr
  · rw [List.getElem?_append_right (by omega)] at hx
    rw [List.getElem?_append_right (by rw [← h.1]; omega), ← h.1] at hr
    exact k.2 _ x r hx hr
end Go.Proofs.YtcidijjbcebcbaaGreat.TN
namespace Go.Proofs.YtcidijjbcebcbaaGreat.TN
open Go.RowKit Go.Sort Go.Shelf

theorem app_all {ops : Array Oper} {rest : List Oper} {o : Oper} {a : Act} {Q : Exit → Act → World → Prop} {w : World} {α : Type} {enc : α → List Value} {k e t B : Nat} {Qb : Nat → Prop} {xs ys : List α} {v u : Value}
    (hE : Elem t e k) (hk : ∀ x, (enc x).length = k) (h1 : ∀ y ∈ ys, ∀ c ∈ enc y, c.oneCell' = true) (hgd : o.guard = none) (s x : Operand) (ho : o.op = .call { callee := .builtin .append, args := #[s, x], argTypes := #[t, t] })
    (hs : a.eval s = v) (hown : Own enc k e B w v xs) (hx : a.eval x = u) (hu : SlAt Qb enc k w u ys) (hb : (xs.length + ys.length) * bsz k ≤ 140737488355328) (hB : B ≤ w.heap.size)
    (h : ∀ v' w', Own enc k e B w' v' (xs ++ ys) → Below B w w' → w.grownBy w' v.ownBlock → wpList Tryz.prog ops Q rest (a.put o.dst v') w') : wpList Tryz.prog ops Q (o :: rest) a w := by
  obtain ⟨ht, hkp, i0, z, hi, hz0, hz1, hz2, hzs⟩ := hE
  obtain ⟨p, cap, rfl, ⟨hcap, hnone⟩, hmax, hy⟩ := hu
  cases p with
  | none =>
    have hn : ys = [] := by
      cases ys with
      | nil => rfl
      | cons y r => obtain ⟨b, o, hp, _⟩ := hy (by simp); cases hp
    subst hn
    have hc := hnone rfl
    subst hc
    refine wpList_append_own_none hgd s x t ho B e i0 k ht hi v xs.length _ hs hown (by rw [hx]; rfl) ?_
    have := h v w (by rw [List.append_nil]; exact hown) (Below.refl _ _) ⟨rfl, rfl, rfl, Nat.le_refl _, fun _ _ _ => rfl⟩
    exact this
  | some ad =>
    refine wpList_append_own w hgd s x t ho B e i0 z k i0.bytes ht hi hz0 hz1 rfl hzs hkp v xs.length _ hs hown ad ys.length cap (ys.flatMap enc) hx (flat_length hk ys) ?_ ?_ ?_ (Nat.le_trans (Nat.mul_le_mul_left _ hz2) hb) hB ?_
    · intro j c hj
      have hne : ys ≠ [] := by intro e; subst e; simp at hj
      obtain ⟨b, o, hp, _, hcell⟩ := hy hne
      have hp' : ad = ⟨b, o, none⟩ := Option.some.inj hp
      rw [hp', Addr.add_lit]
      exact flat_cells hk ys o hcell j c hj
    · intro c hc
      obtain ⟨y, hy', hcy⟩ := List.mem_flatMap.1 hc
      exact h1 y hy' c hcy
    · unfold maxLen; unfold bsz at hb; split at hb <;> omega
    · intro v' w' h2 h3 _
      refine h v' w' ?_ ((Below.refl B w).grown h3 hB (fun j e => (hown.lt j e))) h3
      show w'.ownsRow B e k v' (xs ++ ys).length ((xs ++ ys).flatMap enc)
      rw [List.length_append, List.flatMap_append]; exact h2
/- A block of values, of the call's own. -/
def ty48 (B : Nat) (w : World) (b : Nat) : Prop := B ≤ b ∧ ∃ c fz, w.heap[b]? = some (.cells c 52 fz)
theorem own_ne {enc : Value → List Value} {B B' : Nat} {w : World} {v : Value} {hs : List Value} (h : Own enc 1 45 B w v hs) {b : Nat} (hb : ty48 B' w b) : some b ≠ v.ownBlock := fun e => by
  obtain ⟨c, fz, hc⟩ := Lib.ownsRow_kind h b e.symm
  obtain ⟨-, c', fz', hc'⟩ := hb
  rw [hc] at hc'
  cases hc'
theorem row_grown {B : Nat} {w w' : World} {v : Value} {r : Rw} {row : Option Nat} (h : RowIn (ty48 B w) w v r) (hg : w.grownBy w' row) (hne : ∀ b, ty48 B w b → some b ≠ row) : RowIn (ty48 B w') w' v r := by
  obtain ⟨p, cap, hv, hc, hm, hx⟩ := h
  refine ⟨p, cap, hv, hc, hm, fun hn => ?_⟩
  obtain ⟨b, o, hp, hQ, hj⟩ := hx hn
  have hb : w'.heap[b]? = w.heap[b]? := by
    obtain ⟨-, c, fz, hc⟩ := hQ.1
    exact hg.block b (lt_of_block hc) (hne b hQ.1)
  refine ⟨b, o, hp, ⟨?_, hQ.2⟩, fun j x hjx i u hu => ?_⟩
  · obtain ⟨hB, c, fz, hc⟩ := hQ.1
    exact ⟨hB, c, fz, hb.trans hc⟩
  · exact (World.cell?_of_block (a := ⟨b, o + j * 11 + i, none⟩) hb).trans (hj j x hjx i u hu)
theorem heads_grown {B : Nat} {w w' : World} {hs : List Value} {rs : List Rw} {row : Option Nat} (h : HeadsIn (ty48 B w) w hs rs) (hg : w.grownBy w' row) (hne : ∀ b, ty48 B w b → some b ≠ row) : HeadsIn (ty48 B w') w' hs rs := ⟨h.1, fun j x r h1 h2 => row_grown (h.2 j x r h1 h2) hg hne⟩
theorem ty_on {B : Nat} {w w' : World} {b : Nat} (h : ty48 B w b) (hb : Below w.heap.size w w') : ty48 B w' b := let ⟨hB, c, fz, hc⟩ := h; ⟨hB, c, fz, block_on hc hb⟩
theorem heads_ty_on {B : Nat} {w w' : World} {hs : List Value} {rs : List Rw} (h : HeadsIn (ty48 B w) w hs rs) (hb : Below w.heap.size w w') : HeadsIn (ty48 B w') w' hs rs := (h.on hb).imp (fun _ k => ty_on k hb)
theorem HeadsIn.snoc {Q : Nat → Prop} {w : World} {hs : List Value} {rs : List Rw} {h : Value} {r : Rw} (hh : HeadsIn Q w hs rs) (hr : RowIn Q w h r) : HeadsIn Q w (hs ++ [h]) (rs ++ [r]) := by
  refine ⟨by simp [hh.1], fun j x q h1 h2 => ?_⟩
  by_cases hlt : j < hs.length
  · rw [List.getElem?_append_left hlt] at h1
    rw [List.getElem?_append_left (by rw [← hh.1]; exact hlt)] at h2
    exact hh.2 j x q h1 h2
  · have hj : j = hs.length := by have := (List.getElem?_eq_some_iff.1 h1).1; simp at this; omega
    subst hj
    rw [List.getElem?_append_right (Nat.le_refl _)] at h1
    rw [hh.1, List.getElem?_append_right (Nat.le_refl _)] at h2
    simp at h1 h2
    subst h1 h2
    exact hr
/- One row more in a table of the call's own: the header's slice grows, and the table's second cell is set. -/
theorem row_more {wr W0 w1 : World} {T B3 B : Nat} {rv v' cv : Value} {hs : List Value} {rs : List Rw} {r : Rw} {R : Array Value} (hT : T < B3) (hBw : B ≤ wr.heap.size)
    (hsz : B3 ≤ wr.heap.size) (HK2 : wr.heap[T]? = some (.cells #[cv, rv] 25 (0, 0))) (HO : Own one 1 45 B3 wr rv hs) (HH : HeadsIn (ty48 B wr) wr hs rs) (hW0 : Below wr.heap.size wr W0) (hrow : W0.heap[wr.heap.size]? = some (.cells R 52 (0, 0))) (hR : R.toList = r.flatMap Vl.cells) (hr2 : r.length = 2)
    (HO1 : Own one 1 45 B3 w1 v' (hs ++ [.slice (some ⟨wr.heap.size, 0, none⟩) 2 2])) (HB1 : Below B3 W0 w1) (HG1 : W0.grownBy w1 rv.ownBlock) :
    B3 ≤ (w1.setCell ⟨T, 1, none⟩ v').heap.size ∧ (w1.setCell ⟨T, 1, none⟩ v').heap[T]? = some (.cells #[cv, v'] 25 (0, 0)) ∧ (∀ b, b < T → (w1.setCell ⟨T, 1, none⟩ v').heap[b]? = wr.heap[b]?) ∧
    Own one 1 45 B3 (w1.setCell ⟨T, 1, none⟩ v') v' (hs ++ [.slice (some ⟨wr.heap.size, 0, none⟩) 2 2]) ∧ HeadsIn (ty48 B (w1.setCell ⟨T, 1, none⟩ v')) (w1.setCell ⟨T, 1, none⟩ v') (hs ++ [.slice (some ⟨wr.heap.size, 0, none⟩) 2 2]) (rs ++ [r]) := by
  have K21 : w1.heap[T]? = some (.cells #[cv, rv] 25 (0, 0)) := (HB1.block T hT).trans (block_on HK2 hW0)
  have hne48 : ∀ b, ty48 B w1 b → b ≠ T := fun b hb e => by
    subst e
    obtain ⟨-, c, fz, hc⟩ := hb
    rw [K21] at hc
    cases hc
  refine ⟨?_, ?_, ?_, ?_, ?_⟩
  · rw [World.size_setCell]
    exact Nat.le_trans hsz (Nat.le_trans hW0.size HB1.size)
  · have := heap_setCell_same w1 T 1 _ 25 v' K21
    rw [this]
    rfl
  · intro b hb
    rw [heap_setCell_other _ _ _ _ (by show b ≠ T; omega), HB1.block b (by omega)]
    exact hW0.block b (by omega)
  · refine ⟨HO1.1, HO1.2.elim Or.inl (fun ⟨g, cap, cur, hv, hg, hblk, q⟩ => Or.inr ⟨g, cap, cur, hv, hg, ?_, q⟩)⟩
    rw [heap_setCell_other _ _ _ _ (by show g ≠ T; omega)]
    exact hblk
  · have h0 := heads_ty_on HH hW0
    have ho0 : Own one 1 45 B3 W0 rv hs := HO.on hW0
    have h1 := heads_grown h0 HG1 (fun b hb => own_ne ho0 hb)
    have r0 : RowIn (ty48 B W0) W0 (.slice (some ⟨wr.heap.size, 0, none⟩) 2 2) r := by
      refine SlAt.imp (lit_sl hrow vl_len hR hr2.symm (Nat.le_refl _) (by omega)) (fun b hb => ?_)
      subst hb
      exact ⟨hBw, _, _, hrow⟩
    have r1 := row_grown r0 HG1 (fun b hb => own_ne ho0 hb)
    refine ((h1.snoc r1).set hne48).imp (fun b hb => ?_)
    have hn := hne48 b hb
    obtain ⟨hB, c, fz, hc⟩ := hb
    exact ⟨hB, c, fz, (heap_setCell_other _ _ _ _ (by show b ≠ T; exact hn)).trans hc⟩
theorem alloc_blk2' (w : World) (x y : Obj) : ((w.alloc x).alloc y).heap[w.heap.size + 1]? = some y := by
  have h := alloc_block (w.alloc x) y
  rwa [World.size_alloc] at h
theorem alloc_blk1' (w : World) (x y : Obj) : ((w.alloc x).alloc y).heap[w.heap.size]? = some x := block_on (alloc_block w x) ((Below.refl _ _).alloc (Nat.le_refl _) y)
theorem ext_small (s : ByteArray) (i : Nat) : (s.extract i (i + 1)).size ≤ maxLen := by
  rw [ByteArray.size_extract]; unfold maxLen; omega
/- One header more, as a step of a region that draws its order. -/
theorem step_head {ops : Array Oper} {o : Oper} {a : Act} {w : World} {K : Act → World → Prop} {Q : Exit → Act → World → Prop} {E : Prop} {B g : Nat} {hs : List Value} {v hd : Value}
    (hgd : o.guard = none) (s x : Operand) (ho : o.op = .call { callee := .builtin .append, args := #[s, x], argTypes := #[23, 23] }) (hs' : a.eval s = v) (hx : a.eval x = .slice (some ⟨g, 0, none⟩) 1 1)
    (hown : Own one 1 45 B w v hs) (hblk : w.heap[g]? = some (.cells #[hd] 45 (0, 0))) (h1 : hd.oneCell' = true) (hn : hs.length ≤ 4095) (hB : B ≤ w.heap.size)
    (hK : ∀ v' w', Own one 1 45 B w' v' (hs ++ [hd]) → Below B w w' → w.grownBy w' v.ownBlock → K (a.put o.dst v') w') :
    if Region.wanted o (yielded ops a.tmps) = true then Oper.wp Tryz.prog o a w K Q else E := by
  have hw : Region.wanted o (yielded ops a.tmps) = true := by simp [Region.wanted, hgd]
  rw [if_pos hw]
  obtain ⟨ht, hkp, i0, z, hi, hz0, hz1, hz2, hzs⟩ := elem35
  refine wp_append_own w s x 23 ho B 45 i0 z 1 i0.bytes ht hi hz0 hz1 rfl hzs hkp v hs.length _ hs' hown ⟨g, 0, none⟩ 1 1 [hd] hx rfl ?_ ?_ ?_ ?_ hB ?_
  · intro j c hj
    have hj0 : j = 0 := by have := (List.getElem?_eq_some_iff.1 hj).1; simpa using this
    subst hj0
    simp at hj
    subst hj
    rw [Addr.add_lit, block_cell hblk]
    rfl
  · intro c hc
    simp at hc
    subst hc
    exact h1
  · unfold maxLen; omega
  · exact Nat.le_trans (Nat.mul_le_mul_left _ hz2) (small1 (by omega))
  · intro v' w' h2 h3 _
    refine hK v' w' ?_ ((Below.refl B w).grown h3 hB (fun j e => (hown.lt j e))) h3
    show w'.ownsRow B 45 1 v' (hs ++ [hd]).length ((hs ++ [hd]).flatMap one)
    rw [List.length_append, List.flatMap_append]; exact h2
theorem below_aa (w : World) (x y : Obj) : Below w.heap.size w ((w.alloc x).alloc y) := ((Below.refl _ w).alloc (Nat.le_refl _) x).alloc (by simp) y
theorem below_aad (w : World) (x y : Obj) : Below w.heap.size w ((w.alloc x).alloc y).drew := (below_aa w x y).drew
theorem below_daa (w : World) (x y : Obj) : Below w.heap.size w ((w.drew.alloc x).alloc y) := ((Below.refl _ w).drew.alloc (Nat.le_refl _) x).alloc (by simp) y
def vS (s : ByteArray) (i : Nat) : Vl := ⟨2, 0, s.extract i (i + 1), 0, 0, 0, 0, 0, 0, 0, 0, ext_small s i⟩
def vInt (n : Int) : Vl := ⟨1, n, ⟨#[]⟩, 0, 0, 0, 0, 0, 0, 0, 0, by decide⟩
def cK : Cl := ⟨⟨#[107]⟩, 2, by decide⟩
def cN : Cl := ⟨⟨#[110]⟩, 1, by decide⟩
def rowS (s : ByteArray) (ns : List Int) (i : Nat) : Rw := [vS s i, vInt ns[i]!]
def encI (n : Int) : List Value := [.int .i64 n]
end Go.Proofs.YtcidijjbcebcbaaGreat.TN
