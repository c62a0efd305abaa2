/-
  As many first rows as there are are the whole table; of fewer the last is not behind any other one: mathematics.
  What the walk of RowopsWhole needs.
  What the reference's Canon returns, for every table.
-/
import Derived.Test.YtcidijjbcebcbaaKW07
import Derived.Test.YtcidijjbcebcbaaKW16
import Derived.Test.YtcidijjbcebcbaaKW17
import Derived.Test.YtcidijjbcebcbaaKW20
namespace Go.Proofs.Ytcidijjbcebcbaa.RO
open Go.RowKit

theorem whole_same {p n : Nat} {rs : List TN.Rw} (h : rs.length ≤ n) : topR p n rs = TN.sortR rs := by
  unfold topR
  rw [List.take_of_length_le (by rw [(topL_perm p rs).length_eq]; exact h)]
  exact TN.sortR_perm_eq (topL_perm p rs)
theorem whole_len {p n : Nat} {rs : List TN.Rw} (h : n ≤ rs.length) : (topR p n rs).length = n := by
  unfold topR
  rw [TN.sortR_length, List.length_take, (topL_perm p rs).length_eq]
  omega
theorem whole_few {p n : Nat} {rs : List TN.Rw} {x : TN.Rw} (hx : x ∈ topR p n rs) : (TN.sortR rs).countP (fun r => decide (0 < TN.cmpL (key p r) (key p x))) < n := by
  have hx' : x ∈ (topL p rs).take n := (TN.sortR_perm _).mem_iff.1 hx
  rw [((TN.sortR_perm rs).trans (topL_perm p rs).symm).countP_eq, ← List.take_append_drop n (topL p rs), List.countP_append]
  have h1 : ((topL p rs).drop n).countP (fun r => decide (0 < TN.cmpL (key p r) (key p x))) = 0 := by
    rw [List.countP_eq_zero]
    intro r hr
    have hu := topL_up p rs
    rw [← List.take_append_drop n (topL p rs), List.pairwise_append] at hu
    have := hu.2.2 x hx' r hr
    simp only [decide_eq_true_eq]
    unfold LeT at this
    omega
  rw [h1, Nat.add_zero]
  have h2 : ((topL p rs).take n).countP (fun r => decide (0 < TN.cmpL (key p r) (key p x))) ≤ ((topL p rs).take n).length := List.countP_le_length
  have h3 : ¬ ((topL p rs).take n).countP (fun r => decide (0 < TN.cmpL (key p r) (key p x))) = ((topL p rs).take n).length := fun e => by
    have := List.countP_eq_length.1 e x hx'
    simp [(TN.cmpL_zero (key p x) (key p x)).2 rfl] at this
  have h4 : ((topL p rs).take n).length ≤ n := by rw [List.length_take]; omega
  omega
end Go.Proofs.Ytcidijjbcebcbaa.RO
namespace Go.Proofs.Ytcidijjbcebcbaa.RO
open Go.RowKit Go.Joins Go.Sort

theorem tab_form {w' : World} {v : Value} {cs : List TN.Cl} {rs : List TN.Rw} (h : TN.TabAt w' v cs rs) : ∃ pc nc cc pr nr cr, v = .agg #[.slice pc nc cc, .slice pr nr cr] := by
  obtain ⟨c, r, rfl, ⟨p, cap, rfl, -⟩, hs, ⟨q, cq, rfl, -⟩, -⟩ := h
  exact ⟨_, _, _, _, _, _, rfl⟩
theorem tab_nr {w : World} {cs : List TN.Cl} {rs : List TN.Rw} {pc pr : Option Addr} {nc cc nr cr : Nat} (h : TN.TabAt w (.agg #[.slice pc nc cc, .slice pr nr cr]) cs rs) : nc = cs.length ∧ nr = rs.length := by
  obtain ⟨c, r, e, ⟨p, cap, e1, -⟩, hs, ⟨q, cq, e2, -⟩, hh⟩ := h
  subst e1; subst e2
  cases e
  exact ⟨rfl, hh.1⟩
theorem tab_cell {w : World} {cs : List TN.Cl} {rs : List TN.Rw} {pc pr : Option Addr} {nc cc nr cr : Nat} (h : TN.TabAt w (.agg #[.slice pc nc cc, .slice pr nr cr]) cs rs) {j : Nat} {r : TN.Rw} (hr : rs[j]? = some r) {p : Nat} (hp : p < r.length) : ∃ b o bh oh ch, pr = some ⟨b, o, none⟩ ∧ w.cell? ⟨b, o + j, none⟩ = some (.slice (some ⟨bh, oh, none⟩) r.length ch) ∧ TN.ValCells w bh (oh + p * 11) (key p r) := by
  obtain ⟨c, rv, e, -, hs, ⟨q, cq, e2, -, -, hx⟩, hh⟩ := h
  subst e2
  cases e
  have hj : j < rs.length := (List.getElem?_eq_some_iff.1 hr).1
  have hjs : j < hs.length := by rw [hh.1]; exact hj
  obtain ⟨b, o, rfl, -, hc⟩ := hx (by intro e; subst e; simp at hjs)
  have h1 := hh.2 j hs[j] r (List.getElem?_eq_getElem hjs) hr
  obtain ⟨bh, oh, ch, e3, hv⟩ := row_at h1 hp
  have h2 := hc j hs[j] (List.getElem?_eq_getElem hjs) 0 _ rfl
  rw [e3] at h2
  exact ⟨b, o, bh, oh, ch, rfl, by simpa using h2, TN.val_cells hv⟩
theorem tab_col {w : World} {cs : List TN.Cl} {rs : List TN.Rw} {pc pr : Option Addr} {nc cc nr cr : Nat} (h : TN.TabAt w (.agg #[.slice pc nc cc, .slice pr nr cr]) cs rs) {p : Nat} (hp : p < cs.length) : ∃ b o, pc = some ⟨b, o, none⟩ ∧ w.cell? ⟨b, o + p * 2, none⟩ = some (.string cs[p]!.nm) ∧ w.cell? ⟨b, o + p * 2 + 1, none⟩ = some (.int .i64 cs[p]!.kd) := by
  obtain ⟨c, rv, e, ⟨q, cq, e2, -, -, hx⟩, -⟩ := h
  subst e2
  cases e
  obtain ⟨b, o, rfl, -, hj⟩ := hx (by intro e; subst e; simp at hp)
  have h1 := TN.col_cells (hj p cs[p] (List.getElem?_eq_getElem hp))
  rw [getElem!_pos cs p hp]
  exact ⟨b, o, rfl, h1.1, h1.2⟩
theorem chk_parts {cs : List TN.Cl} {rs : List TN.Rw} (h : TN.checkV cs rs = 0) : (1 ≤ cs.length ∧ cs.length ≤ 16) ∧ (∀ p, p < cs.length → TN.findC cs cs[p]!.nm = p) ∧ ∀ r ∈ rs, r.length = cs.length := by
  have hl := rows_len h
  unfold TN.checkV at h
  by_cases h1 : TN.colsB cs = true
  · unfold TN.colsB at h1
    obtain ⟨a, b⟩ := of_decide_eq_true h1
    refine ⟨a, fun p hp => ?_, hl.2⟩
    have := b p hp
    unfold TN.colOk at this
    simp only [Bool.and_eq_true, decide_eq_true_eq] at this
    exact this.2.1
  · rw [if_neg h1] at h; cases h
theorem kdOf_at {cs : List TN.Cl} {p : Nat} (hp : p < cs.length) : kdOf cs (p : Int) = cs[p]!.kd := by
  unfold kdOf
  rw [Int.toNat_natCast, List.getD_eq_getElem?_getD, getElem!_pos cs p hp, List.getElem?_eq_getElem hp]; rfl
/- Top where all is well. -/
theorem top_ok {tv : Value} {cs : List TN.Cl} {rs : List TN.Rw} {n : Int} {p : Nat} {w : World} (ht : TN.TabAt w tv cs rs) (hrl : rs.length ≤ 1000000) (hck : TN.checkV cs rs = 0) (hp : p < cs.length) (hk : cs[p]!.kd ≠ 4) (h1 : 1 ≤ n) (h2 : n ≤ 1000) : Calls Try.prog 30 #[tv, .int .i64 n, .string cs[p]!.nm] w fun e w' => ∃ v', e = .returned (.tuple #[v', .int .i64 0]) ∧ FormT v' ∧ TN.TabIn (fun k => w.heap.size ≤ k) w' v' cs (topR p n.toNat rs) ∧ Below w.heap.size w w' := by
  have hf := (chk_parts hck).2.1 p hp
  have hb : topB cs n cs[p]!.nm = true := by
    unfold topB
    rw [hf, kdOf_at hp]
    exact decide_eq_true ⟨h1, h2, by omega, hk⟩
  refine (top_any ht hrl).mono ?_
  rintro e w' ⟨v', rfl, ht', hb'⟩
  rw [hb, hf] at ht'
  refine ⟨v', by rw [hb]; unfold runE; rw [if_pos hck]; rfl, ?_, ?_, hb'⟩
  · obtain ⟨a, b, c, d, e, f, hv⟩ := tabE_form ht'; exact ⟨a, b, c, d, e, f, hv⟩
  · have ho : okE cs rs true = true := by unfold okE; rw [decide_eq_true hck]; rfl
    unfold TabE at ht'
    rw [ho, if_pos rfl, if_pos rfl, Int.toNat_natCast] at ht'
    exact ht'
abbrev A3 (a0 a1 a2 : Addr) (v0 v1 v2 : Value) (w : World) : Prop := w.cell? a0 = some v0 ∧ w.cell? a1 = some v1 ∧ w.cell? a2 = some v2
theorem a3B {a0 a1 a2 : Addr} {v0 v1 v2 : Value} {w w' : World} (h : A3 a0 a1 a2 v0 v1 v2 w) (hb : Below w.heap.size w w') : A3 a0 a1 a2 v0 v1 v2 w' :=
  ⟨(hb.cell (block_lt_of_cell h.1)).trans h.1, (hb.cell (block_lt_of_cell h.2.1)).trans h.2.1, (hb.cell (block_lt_of_cell h.2.2)).trans h.2.2⟩
theorem a3D {a0 a1 a2 : Addr} {v0 v1 v2 : Value} {w : World} (h : A3 a0 a1 a2 v0 v1 v2 w) : A3 a0 a1 a2 v0 v1 v2 w.drew := h
theorem a3A {a0 a1 a2 : Addr} {v0 v1 v2 : Value} {w : World} {x : Obj} (h : A3 a0 a1 a2 v0 v1 v2 w) : A3 a0 a1 a2 v0 v1 v2 (w.alloc x) := a3B h ((Below.refl _ _).alloc (Nat.le_refl _) x)
theorem a3S {a0 a1 a2 : Addr} {v0 v1 v2 : Value} {w : World} {R i : Nat} {x : Value} (h0 : R ≠ a0.block) (h1 : R ≠ a1.block) (h2 : R ≠ a2.block) (h : A3 a0 a1 a2 v0 v1 v2 w) : A3 a0 a1 a2 v0 v1 v2 (w.setCell ⟨R, i, none⟩ x) :=
  ⟨(World.cell?_setCell_far _ _ _ _ h0).trans h.1, (World.cell?_setCell_far _ _ _ _ h1).trans h.2.1, (World.cell?_setCell_far _ _ _ _ h2).trans h.2.2⟩
theorem topR_mem {p n : Nat} {rs : List TN.Rw} {r : TN.Rw} (h : r ∈ topR p n rs) : r ∈ rs :=
  (topL_perm p rs).mem_iff.1 (List.mem_of_mem_take ((TN.sortR_perm _).mem_iff.1 h))
theorem set11 {w : World} {b : Nat} {a0 a1 a2 a3 a4 a5 a6 a7 a8 a9 a10 : Value} {t : TypeId} (h : w.heap[b]? = some (.cells #[a0, a1, a2, a3, a4, a5, a6, a7, a8, a9, a10] t (0, 0))) (v : TN.Vl) : (((((((((((w.setCell ⟨b, 0, none⟩ (.int .i64 v.k)).setCell ⟨b, 1, none⟩ (.int .i64 v.n)).setCell ⟨b, 2, none⟩ (.string v.s)).setCell ⟨b, 3, none⟩ (.int .i64 v.h0)).setCell ⟨b, 4, none⟩ (.int .i64 v.h1)).setCell ⟨b, 5, none⟩ (.int .i64 v.h2)).setCell ⟨b, 6, none⟩ (.int .i64 v.h3)).setCell ⟨b, 7, none⟩ (.int .i64 v.h4)).setCell ⟨b, 8, none⟩ (.int .i64 v.h5)).setCell ⟨b, 9, none⟩ (.int .i64 v.h6)).setCell ⟨b, 10, none⟩ (.int .i64 v.h7)).heap[b]? = some (.cells v.cells.toArray t (0, 0)) := by
  have h1 := block_set (block_set (block_set (block_set (block_set (block_set (block_set (block_set (block_set (block_set (block_set h 0 (.int .i64 v.k)) 1 (.int .i64 v.n)) 2 (.string v.s)) 3 (.int .i64 v.h0)) 4 (.int .i64 v.h1)) 5 (.int .i64 v.h2)) 6 (.int .i64 v.h3)) 7 (.int .i64 v.h4)) 8 (.int .i64 v.h5)) 9 (.int .i64 v.h6)) 10 (.int .i64 v.h7)
  simp only [List.setIfInBounds_toArray, List.set_cons_zero, List.set_cons_succ] at h1
  exact h1
theorem below11 {w0 w : World} {B b : Nat} (h : Below B w0 w) (hb : B ≤ b) (v : TN.Vl) : Below B w0 (((((((((((w.setCell ⟨b, 0, none⟩ (.int .i64 v.k)).setCell ⟨b, 1, none⟩ (.int .i64 v.n)).setCell ⟨b, 2, none⟩ (.string v.s)).setCell ⟨b, 3, none⟩ (.int .i64 v.h0)).setCell ⟨b, 4, none⟩ (.int .i64 v.h1)).setCell ⟨b, 5, none⟩ (.int .i64 v.h2)).setCell ⟨b, 6, none⟩ (.int .i64 v.h3)).setCell ⟨b, 7, none⟩ (.int .i64 v.h4)).setCell ⟨b, 8, none⟩ (.int .i64 v.h5)).setCell ⟨b, 9, none⟩ (.int .i64 v.h6)).setCell ⟨b, 10, none⟩ (.int .i64 v.h7)) :=
  TN.below_set (TN.below_set (TN.below_set (TN.below_set (TN.below_set (TN.below_set (TN.below_set (TN.below_set (TN.below_set (TN.below_set (TN.below_set h hb) hb) hb) hb) hb) hb) hb) hb) hb) hb) hb
theorem count_take {p : Nat} {S : List TN.Rw} {x : TN.Vl} {k : Nat} {r : TN.Rw} (h : S[k]? = some r) : (S.take (k + 1)).countP (fun r => decide (0 < TN.cmpL (key p r) x)) = (S.take k).countP (fun r => decide (0 < TN.cmpL (key p r) x)) + if 0 < TN.cmpL (key p r) x then 1 else 0 := by
  rw [List.take_add_one, h, Option.toList_some, List.countP_append, List.countP_singleton]
  by_cases hz : 0 < TN.cmpL (key p r) x <;> simp [hz]
end Go.Proofs.Ytcidijjbcebcbaa.RO
namespace Go.Proofs.Ytcidijjbcebcbaa.TN
open Go.RowKit Go.Sort Go.Shelf

theorem row_low {w : World} {v : Value} {r : Rw} (h : RowAt w v r) : RowIn (fun b => b < w.heap.size) w v r := by
  obtain ⟨p, cap, hv, hc, hm, hx⟩ := h
  refine ⟨p, cap, hv, hc, hm, fun hne => ?_⟩
  obtain ⟨b, o, hp, hQ, hj⟩ := hx hne
  refine ⟨b, o, hp, ⟨?_, hQ.2⟩, hj⟩
  have h0 : 0 < r.length := List.length_pos_iff.2 hne
  exact block_lt_of_cell (hj 0 _ (get!_some h0) 0 _ rfl)
theorem heads_low {w : World} {hs : List Value} {rs : List Rw} (h : HeadsIn any w hs rs) : HeadsIn (fun b => b < w.heap.size) w hs rs := ⟨h.1, fun j x r h1 h2 => row_low (h.2 j x r h1 h2)⟩
theorem below_d (w : World) : Below w.heap.size w w.drew := (Below.refl _ w).drew
theorem below_ad (w : World) (x : Obj) : Below w.heap.size w (w.alloc x).drew := ((Below.refl _ w).alloc (Nat.le_refl _) x).drew
theorem made_d (w : World) : Own Cl.cells 2 61 w.heap.size (w.alloc (.cells #[] 61)).drew (.slice (some ⟨w.heap.size, 0, none⟩) 0 0) ([] : List Cl) := Own.made Cl.cells 2 61 w.heap.size w (Nat.le_refl _)
set_option maxRecDepth 100000 in
set_option maxHeartbeats 2000000 in
theorem rcanon_q {Q : Nat → Prop} {c r : Value} {cs : List Cl} {hs : List Value} {rs : List Rw} {w : World} (hq : ∀ b, Q b → b < w.heap.size) (hc : ColsAt w c cs) (hr : SlAt any one 1 w r hs) (hh : HeadsIn Q w hs rs) :
    Calls Try.prog 26 #[.agg #[c, r]] w fun e w' => ∃ c' r' hs', e = .returned (.agg #[c', r']) ∧ SlAt (fun b => w.heap.size ≤ b) Cl.cells 2 w' c' cs ∧ SlAt (fun b => w.heap.size ≤ b) one 1 w' r' hs' ∧ HeadsIn Q w' hs' (sortR rs) ∧ Below w.heap.size w w' := by
  have HC := hid hc
  have HR := hid hr
  have HH := hid hh
  obtain ⟨q, cap', rfl, -⟩ := hc
  obtain ⟨p, cap, rfl, -⟩ := hr
  clear hh
  generalize hnc : cs.length = nc at *
  generalize hnr : hs.length = nr at *
  have HNC := hid hnc
  clear hnc hnr
  go_enter Try.func26, Try.ntmps26
  go_wp2
  generalize hO0 : (Obj.cells #[.slice q nc cap', .slice p nr cap] 28 (0, 0)) = O0 at *
  generalize hO1 : (Obj.cells #[.slice none 0 0, .slice none 0 0] 28 (0, 0)) = O1 at *
  have HB := hid (below_aa w O0 O1)
  have K0 := hid (alloc_blk1' w O0 O1)
  have K1 := hid (alloc_blk2' w O0 O1)
  have hsz : w.heap.size + 1 + 1 ≤ ((w.alloc O0).alloc O1).heap.size := by simp
  generalize ((w.alloc O0).alloc O1) = W at *
  subst hO0 hO1
  have k0 := block_cell K0.out
  have l0 := lt_of_block K0.out
  have ka : ∀ (A : Obj) (j : Nat), (W.alloc A).cell? ⟨w.heap.size, j, none⟩ = (#[.slice q nc cap', .slice p nr cap] : Array Value)[j]? := fun A j => block_cell (block_on K0.out ((Below.refl _ W).alloc (Nat.le_refl _) A)) j
  have N1 : Hid True := trivial
  have N2 : Hid True := trivial
  have HBD := hid (SlAt.bound HC.out)
  have hWw : w.heap.size ≤ W.heap.size := HB.out.size
  go_region_law (first
    | (have N1' := N1; refine step_app elem45 cl_len (fun x _ => cl_cells x) rfl (.tmp 3) (.tmp 5) rfl (by simp [Act.eval]; try rfl) (by simp [Act.eval]; try rfl) (made_d W) (SlAt.on HC.out (below_on HB.out (below_ad W _))) (by simpa using HBD.out) (by simp) ?_; intro v2 w2 hown2 hb2 hg2; rw [List.nil_append] at hown2; obtain ⟨pc2, capc2, rfl, -⟩ := Own.sl hown2 cl_len HBD.out; rw [HNC.out] at hown2 ⊢; have HB2 := hid ((below_ad W _).trans hb2); have FC := hid (Own.sl hown2 cl_len HBD.out); have k02 := block_cell (block_on K0.out HB2.out); clear N2 hown2 hb2 hg2)
    | (have N2' := N2; refine step_call rfl (.tmp 8) 26 rfl (by simp [Act.eval]; try rfl) enters38 ?_; refine (sorted_any _ (Nat.le_refl _) (SlAt.on HR.out (by first | exact below_on HB.out (below_d _) | exact below_on HB.out (below_ad _ _))) (HeadsIn.on HH.out (by first | exact below_on HB.out (below_d _) | exact below_on HB.out (below_ad _ _)))).mono ?_; rintro e w1 ⟨v1, h1, rfl, hs1, hh1, hb1⟩; refine ⟨_, rfl, ?_⟩; obtain ⟨pr1, capr1, rfl, -⟩ := id hs1; have HS1 := hid hs1; have HH1 := hid hh1; have HBC := hid hb1; have HB1 : Hid (Below W.heap.size W w1) := (by first | exact below_on (below_d _) hb1 | exact below_on (below_ad _ _) hb1); have k01 := block_cell (block_on K0.out HB1.out); have l01 := lt_of_block (block_on K0.out HB1.out); clear N1 hs1 hh1 hb1)
    | (refine step_call rfl (.tmp 8) 26 rfl (by simp [Act.eval]; try rfl) enters38 ?_; refine (sorted_any _ (Nat.le_refl _) (SlAt.on HR.out (below_on HB.out HB2.out)) (HeadsIn.on HH.out (below_on HB.out HB2.out))).mono ?_; rintro e w1 ⟨v1, h1, rfl, hs1, hh1, hb1⟩; refine ⟨_, rfl, ?_⟩; obtain ⟨pr1, capr1, rfl, -⟩ := id hs1; have GC := hid (FC.out.on hb1); have GR := hid (hs1.imp (fun b hb => Nat.le_trans HB2.out.size hb)); have GH := hid hh1; have GB := hid (below_on HB2.out hb1); have KF := hid (block_on K1.out GB.out); have kf := block_cell KF.out; have ff := frozen_no KF.out; clear hs1 hh1 hb1)
    | (refine step_app elem45 cl_len (fun x _ => cl_cells x) rfl (.tmp 3) (.tmp 5) rfl (by simp [Act.eval]; try rfl) (by simp [Act.eval]; try rfl) (by first | exact (made_d W).on HBC.out | exact Own.made Cl.cells 2 61 W.heap.size w1 HB1.out.size) (SlAt.on HC.out (by first | exact below_on HB.out HB1.out | exact below_on HB.out (HB1.out.alloc HB1.out.size _))) (by simpa using HBD.out) (by first | exact HB1.out.size | (simp; exact Nat.le_trans HB1.out.size (Nat.le_succ _))) ?_; intro v2 w2 hown2 hb2 hg2; rw [List.nil_append] at hown2; obtain ⟨pc2, capc2, rfl, -⟩ := Own.sl hown2 cl_len HBD.out; rw [HNC.out] at hown2 ⊢; have GC := hid (Own.sl hown2 cl_len HBD.out); have GB : Hid (Below W.heap.size W w2) := (by first | exact HB1.out.trans hb2 | exact (HB1.out.alloc HB1.out.size _).trans hb2); have GH := hid (HeadsIn.onB (HeadsIn.on HH1.out (by first | exact Below.refl _ _ | exact (Below.refl _ _).alloc (Nat.le_refl _) _)) hb2 (fun b hb => Nat.lt_of_lt_of_le (hq b hb) hWw)); have GR : Hid (SlAt (fun b => W.heap.size ≤ b) one 1 w2 _ h1) := (by first | exact (SlAt.grown (HS1.out.on (Below.refl _ _)) (by decide) one_len hg2 (fun b hb hlt e => by simp [Value.ownBlock] at e; subst e; simp at hb)).imp (fun b hb => by simp at hb; omega) | exact (SlAt.grown ((SlAt.low HS1.out (by decide) one_len).on ((Below.refl _ _).alloc (Nat.le_refl _) _)) (by decide) one_len hg2 (fun b hb hlt e => by simp [Value.ownBlock] at e; omega)).imp (fun b hb => by simp at hb; omega)); have KF := hid (block_on K1.out GB.out); have kf := block_cell KF.out; have ff := frozen_no KF.out; clear hown2 hb2 hg2))
  all_goals
    go_wp2
    refine bodyPost_ret (v := .agg #[.slice pc2 nc capc2, .slice pr1 h1.length capr1]) ?_ rfl ⟨_, _, h1, rfl, ?_, ?_, ?_, ?_⟩
    · have KF2 := Joins.block_setCell (i := 1) (Joins.block_setCell (i := 0) KF.out (.slice pc2 nc capc2)) (.slice pr1 h1.length capr1)
      clear kf ff
      first
        | generalize ((w1.setCell ⟨w.heap.size + 1, 0, none⟩ (.slice pc2 nc capc2)).setCell ⟨w.heap.size + 1, 1, none⟩ (.slice pr1 h1.length capr1)) = WF at KF2 ⊢; have kcf := block_cell KF2; clear KF2; simp [results, Try.results26, go_sem, kcf]; done
        | generalize ((w2.setCell ⟨w.heap.size + 1, 0, none⟩ (.slice pc2 nc capc2)).setCell ⟨w.heap.size + 1, 1, none⟩ (.slice pr1 h1.length capr1)) = WF at KF2 ⊢; have kcf := block_cell KF2; clear KF2; simp [results, Try.results26, go_sem, kcf]; done
    · exact SlAt.imp (SlAt.set (fun b hb => by omega) (SlAt.set (fun b hb => by omega) GC.out)) (fun b hb => Nat.le_trans hWw hb)
    · exact SlAt.imp (SlAt.set (fun b hb => by omega) (SlAt.set (fun b hb => by omega) GR.out)) (fun b hb => Nat.le_trans hWw hb)
    · exact HeadsIn.set (fun b hb => by have := hq b hb; omega) (HeadsIn.set (fun b hb => by have := hq b hb; omega) GH.out)
    · exact below_set (below_set (below_on HB.out GB.out) (by omega)) (by omega)
theorem rcanon_any {v : Value} {cs : List Cl} {rs : List Rw} {w : World} (hv : TabAt w v cs rs) :
    Calls Try.prog 26 #[v] w fun e w' => ∃ v', e = .returned v' ∧ TabAt w' v' cs (sortR rs) ∧ Below w.heap.size w w' := by
  obtain ⟨c, r, rfl, hc, hs, hr, hh⟩ := hv
  refine (rcanon_q (fun b hb => hb) hc hr (heads_low hh)).mono ?_
  rintro e w' ⟨c', r', hs', rfl, h1, h2, h3, hb⟩
  exact ⟨_, rfl, ⟨c', r', rfl, h1.imp fun _ _ => trivial, hs', h2.imp fun _ _ => trivial, h3.imp fun _ _ => trivial⟩, hb⟩
end Go.Proofs.Ytcidijjbcebcbaa.TN
