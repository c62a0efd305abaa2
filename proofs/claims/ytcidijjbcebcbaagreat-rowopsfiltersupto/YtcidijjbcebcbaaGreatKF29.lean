/-
  Stage 16's examples: what the steps tell of them.
  What the reference's Canon returns, for every table.
  The reference's Align.
  Filter, and the reference's.
-/
import Derived.Test.YtcidijjbcebcbaaGreatKF08
import Derived.Test.YtcidijjbcebcbaaGreatKF12
import Derived.Test.YtcidijjbcebcbaaGreatKF13
import Derived.Test.YtcidijjbcebcbaaGreatKF17
import Derived.Test.YtcidijjbcebcbaaGreatKF26
import Derived.Test.YtcidijjbcebcbaaGreatKF27
import Derived.Test.YtcidijjbcebcbaaGreatKF28
import Derived.Laws.EntriesVeiled
namespace Go.Proofs.YtcidijjbcebcbaaGreat.RO
open Go.RowKit Go.Joins Go.Sort

def cs2 : List TN.Cl := [TN.cT, TN.cN]
def nB : ByteArray := ⟨#[110]⟩
def xB : ByteArray := ⟨#[120]⟩
theorem up_two {a b : TN.Rw} (h : TN.cmpR a b ≤ 0) : TN.upR [a, b] := List.Pairwise.cons (fun x hx => by simp at hx; subst hx; exact h) (List.pairwise_singleton _ _)
theorem sort_two {a b : TN.Rw} (h : TN.cmpR a b ≤ 0) : TN.sortR [a, b] = [a, b] := (TN.sortR_of (up_two h) (List.Perm.refl _)).symm
theorem al_rows : TN.sortR ((TN.rowsP [-1, 0, 25, 1]).map (alR (TN.findC cs2 tmB).toNat 10)) = TN.rowsP [-10, 0, 20, 1] := by
  have e : (TN.rowsP [-1, 0, 25, 1]).map (alR (TN.findC cs2 tmB).toNat 10) = TN.rowsP [-10, 0, 20, 1] := by decide +kernel
  rw [e]
  exact sort_two (a := TN.rowP [-10, 0, 20, 1] 0) (b := TN.rowP [-10, 0, 20, 1] 1) (by decide +kernel)
theorem al_E : runE cs2 (TN.rowsP [-1, 0, 25, 1]) (alB cs2 10) = 0 := by decide +kernel
theorem al_O : okE cs2 (TN.rowsP [-1, 0, 25, 1]) (alB cs2 10) = true := by decide +kernel
theorem to_E : runE cs2 (TN.rowsP [1, 5, 2, 7, 3, 7]) (topB cs2 2 nB) = 0 := by decide +kernel
theorem to_O : okE cs2 (TN.rowsP [1, 5, 2, 7, 3, 7]) (topB cs2 2 nB) = true := by decide +kernel
theorem to_rows : topR (TN.findC cs2 nB).toNat (2 : Int).toNat (TN.rowsP [1, 5, 2, 7, 3, 7]) = TN.rowsP [2, 7, 3, 7] := by
  have e : topL (TN.findC cs2 nB).toNat (TN.rowsP [1, 5, 2, 7, 3, 7]) = TN.rowsP [2, 7, 3, 7, 1, 5] := by
    refine (top_unique ?_ ?_).symm
    · decide +kernel
    · exact (List.perm_append_comm (l₁ := TN.rowsP [2, 7, 3, 7]) (l₂ := TN.rowsP [1, 5]))
  unfold topR
  rw [e]
  exact sort_two (a := TN.rowP [2, 7, 3, 7] 0) (b := TN.rowP [2, 7, 3, 7] 1) (by decide +kernel)
theorem g_E : runE cs2 (TN.rowsP [1, 5]) (topB cs2 0 nB) = 1 := by decide +kernel
theorem h_E : runE cs2 (TN.rowsP [1, 5]) (topB cs2 1 xB) = 1 := by decide +kernel
theorem i_E : runE cs2 (TN.rowsP [1, 5]) (alB cs2 0) = 1 := by decide +kernel
theorem nums_of {ns : List Int} (h : ∀ n ∈ ns, InI n) : NumsIn (TN.rowsP ns) := by
  intro r hr v hv
  unfold TN.rowsP at hr
  obtain ⟨i, hi, rfl⟩ := List.mem_map.1 hr
  have key : ∀ j, InI ns[j]! := fun j => by
    by_cases hj : j < ns.length
    · exact h _ (List.mem_of_getElem? (TN.get!_some hj))
    · rw [List.getElem!_eq_getElem?_getD, List.getElem?_eq_none (by omega)]; exact ⟨by decide, by decide⟩
  unfold TN.rowP at hv
  simp only [List.mem_cons, List.not_mem_nil, or_false] at hv
  rcases hv with rfl | rfl
  · exact key _
  · exact key _
theorem tab_of {b : Bool} {w w' : World} {v : Value} {cs : List TN.Cl} {rs : List TN.Rw} (h : TabE b w w' v cs rs) (hb : b = true) : TN.TabAt w' v cs rs := by subst hb; exact TN.TabIn.at h
def FormT (v : Value) : Prop := ∃ pc nc cc pr nr cr, v = .agg #[.slice pc nc cc, .slice pr nr cr]
theorem alA {v : Value} {w : World} (h : TN.TabAt w v cs2 (TN.rowsP [-1, 0, 25, 1])) : Calls Tryz.prog 9 #[v, .int .i64 10] w fun e w' => ∃ v', e = .returned (.tuple #[v', .int .i64 0]) ∧ FormT v' ∧ TN.TabAt w' v' cs2 (TN.rowsP [-10, 0, 20, 1]) ∧ Below w.heap.size w w' := by
  refine (align_any (n := 10) h ⟨by decide, by decide⟩ (nums_of (by intro n hn; simp at hn; rcases hn with rfl | rfl | rfl | rfl <;> exact ⟨by decide, by decide⟩)) (by decide)).mono ?_
  rintro e w' ⟨v', rfl, h1, h2⟩
  refine ⟨v', by rw [al_E], tabE_form h1, ?_, h2⟩
  have := tab_of h1 al_O
  rwa [al_rows] at this
theorem toA {v : Value} {w : World} (h : TN.TabAt w v cs2 (TN.rowsP [1, 5, 2, 7, 3, 7])) : Calls Tryz.prog 11 #[v, .int .i64 2, .string nB] w fun e w' => ∃ v', e = .returned (.tuple #[v', .int .i64 0]) ∧ FormT v' ∧ TN.TabAt w' v' cs2 (TN.rowsP [2, 7, 3, 7]) ∧ Below w.heap.size w w' := by
  refine (top_any (n := 2) h (by decide)).mono ?_
  rintro e w' ⟨v', rfl, h1, h2⟩
  refine ⟨v', by rw [to_E], tabE_form h1, ?_, h2⟩
  have := tab_of h1 to_O
  rwa [to_rows] at this
theorem toG {v : Value} {w : World} (h : TN.TabAt w v cs2 (TN.rowsP [1, 5])) : Calls Tryz.prog 11 #[v, .int .i64 0, .string nB] w fun e w' => ∃ v', e = .returned (.tuple #[v', .int .i64 1]) ∧ FormT v' ∧ Below w.heap.size w w' := by
  refine (top_any (n := 0) h (by decide)).mono ?_
  rintro e w' ⟨v', rfl, h1, h2⟩
  exact ⟨v', by rw [g_E], tabE_form h1, h2⟩
theorem toH {v : Value} {w : World} (h : TN.TabAt w v cs2 (TN.rowsP [1, 5])) : Calls Tryz.prog 11 #[v, .int .i64 1, .string xB] w fun e w' => ∃ v', e = .returned (.tuple #[v', .int .i64 1]) ∧ FormT v' ∧ Below w.heap.size w w' := by
  refine (top_any (n := 1) h (by decide)).mono ?_
  rintro e w' ⟨v', rfl, h1, h2⟩
  exact ⟨v', by rw [h_E], tabE_form h1, h2⟩
theorem alI {v : Value} {w : World} (h : TN.TabAt w v cs2 (TN.rowsP [1, 5])) : Calls Tryz.prog 9 #[v, .int .i64 0] w fun e w' => ∃ v', e = .returned (.tuple #[v', .int .i64 1]) ∧ FormT v' ∧ Below w.heap.size w w' := by
  refine (align_any (n := 0) h ⟨by decide, by decide⟩ (nums_of (by intro n hn; simp at hn; rcases hn with rfl | rfl <;> exact ⟨by decide, by decide⟩)) (by decide)).mono ?_
  rintro e w' ⟨v', rfl, h1, h2⟩
  exact ⟨v', by rw [i_E], tabE_form h1, h2⟩
/- pairs of a literal row of numbers. -/
def lit (ns : List Int) : List Value := ns.map (fun n => .int .i64 n)
theorem pairs_lit {ns : List Int} {w : World} {b n n2 : Nat} (h : w.heap[b]? = some (.cells (lit ns).toArray 3 (0, 0))) (hn : ns.length = n) (hn2 : n = 2 * n2) (hl : n2 ≤ 1000) : Calls Tryz.prog 10 #[.slice (some ⟨b, 0, none⟩) n n] w fun e w' => ∃ v', e = .returned v' ∧ FormT v' ∧ TN.TabAt w' v' cs2 (TN.rowsP ns) ∧ Below w.heap.size w w' := by
  have hs : TN.SlAt TN.any TN.encI 1 w (.slice (some ⟨b, 0, none⟩) n n) ns := (TN.lit_sl (enc := TN.encI) (k := 1) h (fun _ => rfl) (by unfold lit; rw [List.map_eq_flatMap]; rfl) hn.symm (Nat.le_refl _) (by omega)).imp (fun _ _ => trivial)
  refine (TN.pairs_any (n2 := n2) hs (by omega) hl).mono ?_
  rintro e w' ⟨v', rfl, h1, h2⟩
  refine ⟨v', rfl, ?_, h1.at, h2⟩
  obtain ⟨c, r, rfl, ⟨p, cap, rfl, -⟩, hs, ⟨q, cq, rfl, -⟩, -⟩ := h1
  exact ⟨_, _, _, _, _, _, rfl⟩
end Go.Proofs.YtcidijjbcebcbaaGreat.RO
namespace Go.Proofs.YtcidijjbcebcbaaGreat.TN
open Go.RowKit Go.Sort Go.Shelf

theorem row_low {w : World} {v : Value} {r : Rw} (h : RowAt w v r) : RowIn (fun b => b < w.heap.size) w v r := by
  obtain ⟨p, cap, hv, hc, hm, hx⟩ := h
  refine ⟨p, cap, hv, hc, hm, fun hne => ?_⟩
  obtain ⟨b, o, hp, hQ, hj⟩ := hx hne
  refine ⟨b, o, hp, ⟨?_, hQ.2⟩, hj⟩
  have h0 : 0 < r.length := List.length_pos_iff.2 hne
  exact block_lt_of_cell (hj 0 _ (get!_some h0) 0 _ rfl)
theorem heads_low {w : World} {hs : List Value} {rs : List Rw} (h : HeadsIn any w hs rs) : HeadsIn (fun b => b < w.heap.size) w hs rs := ⟨h.1, fun j x r h1 h2 => row_low (h.2 j x r h1 h2)⟩
theorem below_d (w : World) : Below w.heap.size w w.drew := (Below.refl _ w).drew
theorem below_ad (w : World) (x : Obj) : Below w.heap.size w (w.alloc x).drew := ((Below.refl _ w).alloc (Nat.le_refl _) x).drew
theorem made_d (w : World) : Own Cl.cells 2 48 w.heap.size (w.alloc (.cells #[] 48)).drew (.slice (some ⟨w.heap.size, 0, none⟩) 0 0) ([] : List Cl) := Own.made Cl.cells 2 48 w.heap.size w (Nat.le_refl _)
set_option maxRecDepth 100000 in
set_option maxHeartbeats 2000000 in
theorem rcanon_q {Q : Nat → Prop} {c r : Value} {cs : List Cl} {hs : List Value} {rs : List Rw} {w : World} (hq : ∀ b, Q b → b < w.heap.size) (hc : ColsAt w c cs) (hr : SlAt any one 1 w r hs) (hh : HeadsIn Q w hs rs) :
    Calls Tryz.prog 16 #[.agg #[c, r]] w fun e w' => ∃ c' r' hs', e = .returned (.agg #[c', r']) ∧ SlAt (fun b => w.heap.size ≤ b) Cl.cells 2 w' c' cs ∧ SlAt (fun b => w.heap.size ≤ b) one 1 w' r' hs' ∧ HeadsIn Q w' hs' (sortR rs) ∧ Below w.heap.size w w' := by
  have HC := hid hc
  have HR := hid hr
  have HH := hid hh
  obtain ⟨q, cap', rfl, -⟩ := hc
  obtain ⟨p, cap, rfl, -⟩ := hr
  clear hh
  generalize hnc : cs.length = nc at *
  generalize hnr : hs.length = nr at *
  have HNC := hid hnc
  clear hnc hnr
  go_enter Tryz.func16, Tryz.ntmps16
  go_wp2
  generalize hO0 : (Obj.cells #[.slice q nc cap', .slice p nr cap] 25 (0, 0)) = O0 at *
  generalize hO1 : (Obj.cells #[.slice none 0 0, .slice none 0 0] 25 (0, 0)) = O1 at *
  have HB := hid (below_aa w O0 O1)
  have K0 := hid (alloc_blk1' w O0 O1)
  have K1 := hid (alloc_blk2' w O0 O1)
  have hsz : w.heap.size + 1 + 1 ≤ ((w.alloc O0).alloc O1).heap.size := by simp
  generalize ((w.alloc O0).alloc O1) = W at *
  subst hO0 hO1
  have k0 := block_cell K0.out
  have l0 := lt_of_block K0.out
  have ka : ∀ (A : Obj) (j : Nat), (W.alloc A).cell? ⟨w.heap.size, j, none⟩ = (#[.slice q nc cap', .slice p nr cap] : Array Value)[j]? := fun A j => block_cell (block_on K0.out ((Below.refl _ W).alloc (Nat.le_refl _) A)) j
  have N1 : Hid True := trivial
  have N2 : Hid True := trivial
  have HBD := hid (SlAt.bound HC.out)
  have hWw : w.heap.size ≤ W.heap.size := HB.out.size
  go_region_law (first
    | (have N1' := N1; refine step_app elem45 cl_len (fun x _ => cl_cells x) rfl (.tmp 3) (.tmp 5) rfl (by simp [Act.eval]; try rfl) (by simp [Act.eval]; try rfl) (made_d W) (SlAt.on HC.out (below_on HB.out (below_ad W _))) (by simpa using HBD.out) (by simp) ?_; intro v2 w2 hown2 hb2 hg2; rw [List.nil_append] at hown2; obtain ⟨pc2, capc2, rfl, -⟩ := Own.sl hown2 cl_len HBD.out; rw [HNC.out] at hown2 ⊢; have HB2 := hid ((below_ad W _).trans hb2); have FC := hid (Own.sl hown2 cl_len HBD.out); have k02 := block_cell (block_on K0.out HB2.out); clear N2 hown2 hb2 hg2)
    | (have N2' := N2; refine step_call rfl (.tmp 8) 23 rfl (by simp [Act.eval]; try rfl) enters38 ?_; refine (sorted_any _ (Nat.le_refl _) (SlAt.on HR.out (by first | exact below_on HB.out (below_d _) | exact below_on HB.out (below_ad _ _))) (HeadsIn.on HH.out (by first | exact below_on HB.out (below_d _) | exact below_on HB.out (below_ad _ _)))).mono ?_; rintro e w1 ⟨v1, h1, rfl, hs1, hh1, hb1⟩; refine ⟨_, rfl, ?_⟩; obtain ⟨pr1, capr1, rfl, -⟩ := id hs1; have HS1 := hid hs1; have HH1 := hid hh1; have HBC := hid hb1; have HB1 : Hid (Below W.heap.size W w1) := (by first | exact below_on (below_d _) hb1 | exact below_on (below_ad _ _) hb1); have k01 := block_cell (block_on K0.out HB1.out); have l01 := lt_of_block (block_on K0.out HB1.out); clear N1 hs1 hh1 hb1)
    | (refine step_call rfl (.tmp 8) 23 rfl (by simp [Act.eval]; try rfl) enters38 ?_; refine (sorted_any _ (Nat.le_refl _) (SlAt.on HR.out (below_on HB.out HB2.out)) (HeadsIn.on HH.out (below_on HB.out HB2.out))).mono ?_; rintro e w1 ⟨v1, h1, rfl, hs1, hh1, hb1⟩; refine ⟨_, rfl, ?_⟩; obtain ⟨pr1, capr1, rfl, -⟩ := id hs1; have GC := hid (FC.out.on hb1); have GR := hid (hs1.imp (fun b hb => Nat.le_trans HB2.out.size hb)); have GH := hid hh1; have GB := hid (below_on HB2.out hb1); have KF := hid (block_on K1.out GB.out); have kf := block_cell KF.out; have ff := frozen_no KF.out; clear hs1 hh1 hb1)
    | (refine step_app elem45 cl_len (fun x _ => cl_cells x) rfl (.tmp 3) (.tmp 5) rfl (by simp [Act.eval]; try rfl) (by simp [Act.eval]; try rfl) (by first | exact (made_d W).on HBC.out | exact Own.made Cl.cells 2 48 W.heap.size w1 HB1.out.size) (SlAt.on HC.out (by first | exact below_on HB.out HB1.out | exact below_on HB.out (HB1.out.alloc HB1.out.size _))) (by simpa using HBD.out) (by first | exact HB1.out.size | (simp; exact Nat.le_trans HB1.out.size (Nat.le_succ _))) ?_; intro v2 w2 hown2 hb2 hg2; rw [List.nil_append] at hown2; obtain ⟨pc2, capc2, rfl, -⟩ := Own.sl hown2 cl_len HBD.out; rw [HNC.out] at hown2 ⊢; have GC := hid (Own.sl hown2 cl_len HBD.out); have GB : Hid (Below W.heap.size W w2) := (by first | exact HB1.out.trans hb2 | exact (HB1.out.alloc HB1.out.size _).trans hb2); have GH := hid (HeadsIn.onB (HeadsIn.on HH1.out (by first | exact Below.refl _ _ | exact (Below.refl _ _).alloc (Nat.le_refl _) _)) hb2 (fun b hb => Nat.lt_of_lt_of_le (hq b hb) hWw)); have GR : Hid (SlAt (fun b => W.heap.size ≤ b) one 1 w2 _ h1) := (by first | exact (SlAt.grown (HS1.out.on (Below.refl _ _)) (by decide) one_len hg2 (fun b hb hlt e => by simp [Value.ownBlock] at e; subst e; simp at hb)).imp (fun b hb => by simp at hb; omega) | exact (SlAt.grown ((SlAt.low HS1.out (by decide) one_len).on ((Below.refl _ _).alloc (Nat.le_refl _) _)) (by decide) one_len hg2 (fun b hb hlt e => by simp [Value.ownBlock] at e; omega)).imp (fun b hb => by simp at hb; omega)); have KF := hid (block_on K1.out GB.out); have kf := block_cell KF.out; have ff := frozen_no KF.out; clear hown2 hb2 hg2))
  all_goals
    go_wp2
    refine bodyPost_ret (v := .agg #[.slice pc2 nc capc2, .slice pr1 h1.length capr1]) ?_ rfl ⟨_, _, h1, rfl, ?_, ?_, ?_, ?_⟩
    · have KF2 := Joins.block_setCell (i := 1) (Joins.block_setCell (i := 0) KF.out (.slice pc2 nc capc2)) (.slice pr1 h1.length capr1)
      clear kf ff
      first
        | generalize ((w1.setCell ⟨w.heap.size + 1, 0, none⟩ (.slice pc2 nc capc2)).setCell ⟨w.heap.size + 1, 1, none⟩ (.slice pr1 h1.length capr1)) = WF at KF2 ⊢; have kcf := block_cell KF2; clear KF2; simp [results, Tryz.results16, go_sem, kcf]; done
        | generalize ((w2.setCell ⟨w.heap.size + 1, 0, none⟩ (.slice pc2 nc capc2)).setCell ⟨w.heap.size + 1, 1, none⟩ (.slice pr1 h1.length capr1)) = WF at KF2 ⊢; have kcf := block_cell KF2; clear KF2; simp [results, Tryz.results16, go_sem, kcf]; done
    · exact SlAt.imp (SlAt.set (fun b hb => by omega) (SlAt.set (fun b hb => by omega) GC.out)) (fun b hb => Nat.le_trans hWw hb)
    · exact SlAt.imp (SlAt.set (fun b hb => by omega) (SlAt.set (fun b hb => by omega) GR.out)) (fun b hb => Nat.le_trans hWw hb)
    · exact HeadsIn.set (fun b hb => by have := hq b hb; omega) (HeadsIn.set (fun b hb => by have := hq b hb; omega) GH.out)
    · exact below_set (below_set (below_on HB.out GB.out) (by omega)) (by omega)
theorem rcanon_any {v : Value} {cs : List Cl} {rs : List Rw} {w : World} (hv : TabAt w v cs rs) :
    Calls Tryz.prog 16 #[v] w fun e w' => ∃ v', e = .returned v' ∧ TabAt w' v' cs (sortR rs) ∧ Below w.heap.size w w' := by
  obtain ⟨c, r, rfl, hc, hs, hr, hh⟩ := hv
  refine (rcanon_q (fun b hb => hb) hc hr (heads_low hh)).mono ?_
  rintro e w' ⟨c', r', hs', rfl, h1, h2, h3, hb⟩
  exact ⟨_, rfl, ⟨c', r', rfl, h1.imp fun _ _ => trivial, hs', h2.imp fun _ _ => trivial, h3.imp fun _ _ => trivial⟩, hb⟩
end Go.Proofs.YtcidijjbcebcbaaGreat.TN
namespace Go.Proofs.YtcidijjbcebcbaaGreat.RO
open Go.RowKit Go.Joins Go.Sort

/- A table that is told beside an error's number, wherever it lies. -/
def TabR (b : Bool) (w' : World) (v : Value) (cs : List TN.Cl) (rs : List TN.Rw) : Prop := TN.TabAt w' v (if b then cs else []) (if b then rs else [])
theorem TabR.no {w' : World} (cs : List TN.Cl) (rs : List TN.Rw) : TabR false w' (.agg #[.slice none 0 0, .slice none 0 0]) cs rs := ⟨_, _, rfl, TN.SlAt.nil _ _ _ _, [], TN.SlAt.nil _ _ _ _, rfl, fun j h r h1 => by simp at h1⟩
end Go.Proofs.YtcidijjbcebcbaaGreat.RO
namespace Go.Proofs.YtcidijjbcebcbaaGreat.PD
open Go.RowKit Go.Joins Go.Sort

theorem own_tnB {B e : Nat} {w : World} {v : Value} {xs : List Value} (h : Own TN.one 1 e B w v xs) (hl : xs.length ≤ 1000000) : TN.SlAt (fun b => B ≤ b) TN.one 1 w v xs := by
  rcases h.2 with ⟨hv, h0⟩ | ⟨g, cap, cur, hv, hg, hblk, hc, hm, q⟩
  · have hn : xs = [] := List.eq_nil_of_length_eq_zero h0
    subst hn
    rw [hv]; exact TN.SlAt.nil _ _ _ _
  · refine ⟨some ⟨g, 0, none⟩, cap, hv, ⟨hc, fun e => by cases e⟩, by unfold maxLen; omega, fun _ => ⟨g, 0, rfl, ⟨hg, by unfold TN.bsz; rw [if_neg (by decide)]; omega⟩, fun j x hx i u hi => ?_⟩⟩
    have := World.ownsRow.cells h (g := g) (by rw [hv]; rfl) (j * 1 + i) u (flat_get (enc := TN.one) (k := 1) (fun _ => rfl) xs j x hx i u hi)
    rw [Addr.add_lit, Nat.zero_add] at this
    rw [Nat.zero_add]
    exact this
theorem whp_tab {cs : List TN.Cl} {rs : List TN.Rw} {B : Nat} {w' : World} {cv rv : Value} {hs : List Value} (hc : TN.SlAt (fun b => B ≤ b ∧ b < w'.heap.size) TN.Cl.cells 2 w' cv cs) (hr : Rws B w' rv hs rs) (hl : rs.length ≤ 1000000) : TN.TabIn (fun b => B ≤ b) w' (.agg #[cv, rv]) cs rs :=
  ⟨cv, rv, rfl, hc.imp (fun b hb => hb.1), hs, own_tnB hr.own (by rw [hr.len]; exact hl), ⟨hr.len, fun j x r h1 h2 => (hr.row j x r h1 h2).imp (fun b hb => hb.1)⟩⟩
theorem tab_formP {Q : Nat → Prop} {w' : World} {v : Value} {cs : List TN.Cl} {rs : List TN.Rw} (h : TN.TabIn Q w' v cs rs) : ∃ pc nc cc pr nr cr, v = .agg #[.slice pc nc cc, .slice pr nr cr] := by
  obtain ⟨c, r, rfl, ⟨p, cap, rfl, -⟩, hs, ⟨q, cq, rfl, -⟩, -⟩ := h
  exact ⟨_, _, _, _, _, _, rfl⟩
theorem filt_len {f : TN.Rw → Bool} {rs : List TN.Rw} {n : Nat} (h : rs.length ≤ n) : (rs.filter f).length ≤ n := Nat.le_trans (List.length_filter_le _ _) h
set_option maxRecDepth 100000 in
set_option maxHeartbeats 4000000 in
theorem filter1_any {cv rv nv : Value} {cs : List TN.Cl} {rs : List TN.Rw} {qs : List Nx} {i : Int} {bt bq bi : Nat} {w : World} (ht : TN.TabAt w (.agg #[cv, rv]) cs rs) (hq : Qx (fun b => b < w.heap.size) w nv qs) (h0 : w.cell? ⟨bt, 0, none⟩ = some cv) (h1 : w.cell? ⟨bt, 1, none⟩ = some rv) (h2 : w.cell? ⟨bq, 0, none⟩ = some nv) (h3 : w.cell? ⟨bi, 0, none⟩ = some (.int .i64 i)) (hl : qs.length ≤ 1000) (hM : Mx w) (hz : ∀ r ∈ rs, Rsz r) (hrl : rs.length ≤ 1000000) : Calls Tryz.prog 13 #[dp bt, dp bq, dp bi] w fun e w' => ∃ v', e = .returned v' ∧ TN.TabAt w' v' cs (rs.filter (holdsX cs qs i)) ∧ Below w.heap.size w w' := by
  obtain ⟨c', rv', e, hc, hs, hr, hh⟩ := ht
  cases e
  obtain ⟨O0, hO0⟩ : ∃ O, O = Obj.cells #[.slice none 0 0, .slice none 0 0] 25 (0, 0) := ⟨_, rfl⟩
  have hb := (Below.refl w.heap.size w).alloc (Nat.le_refl _) O0
  have k0 := alloc_block w O0
  obtain ⟨W, hW⟩ : ∃ W, W = w.alloc O0 := ⟨_, rfl⟩
  rw [← hW] at hb k0
  rw [hO0] at k0
  have HWh := hid (where_any (i := i) (qx_lt hq hb) hl (hc.on hb) (hr.on hb) (TN.HeadsIn.on hh hb) (hM.on hb) (fun _ _ _ r hr => hz r hr) hrl)
  have q0 : W.cell? ⟨bt, 0, none⟩ = _ := (hb.cell (block_lt_of_cell h0)).trans h0
  have q1 : W.cell? ⟨bt, 1, none⟩ = _ := (hb.cell (block_lt_of_cell h1)).trans h1
  have q2 : W.cell? ⟨bq, 0, none⟩ = _ := (hb.cell (block_lt_of_cell h2)).trans h2
  have q3 : W.cell? ⟨bi, 0, none⟩ = _ := (hb.cell (block_lt_of_cell h3)).trans h3
  have HB := hid hb
  have K0 := hid k0
  have HW := hid hW
  rw [hO0] at HW
  have lW := lt_of_block k0
  have HRL := hid hrl
  obtain ⟨pc, cc, rfl, -⟩ := id hc
  obtain ⟨pr, cr, rfl, -⟩ := id hr
  obtain ⟨pn, cn, rfl, -, -⟩ := hq.sl.form
  clear hb k0 hW hO0 hc hr hh hq hl hM hz h0 h1 h2 h3
  go_enter Tryz.func13, Tryz.ntmps13
  go_upto_region 1 with fail
  rw [← HW.out]
  clear HW
  go_wp2_with (first | (go_at_call 14; refine HWh.out.mono ?_; rintro e w1 ⟨cv1, rv1, hs1, rfl, hc1, hr1, hb1⟩; have ht1 := whp_tab hc1 hr1 (filt_len HRL.out); have HT1 := hid ht1; obtain ⟨pc1, nc1, cc1, pr1, nr1, cr1, e1⟩ := tab_formP ht1; cases e1; have HB1 := hid (TN.below_on HB.out hb1); have K1 := hid (block_on K0.out hb1); have y1 := block_cell K1.out; have x1 := block_frozen K1.out; clear ht1 hc1 hr1 hb1))
  have KF := block_set (block_set K1.out 0 (.slice pc1 nc1 cc1)) 1 (.slice pr1 nr1 cr1)
  have HBf := hid (TN.below_set (TN.below_set (u := .slice pc1 nc1 cc1) (i := 0) HB1.out (R := w.heap.size) (by omega)) (u := .slice pr1 nr1 cr1) (i := 1) (R := w.heap.size) (by omega))
  have HTf := hid (TN.TabIn.set (R := w.heap.size) (i := 1) (u := .slice pr1 nr1 cr1) (fun b (hb : W.heap.size ≤ b) => by omega) (TN.TabIn.set (R := w.heap.size) (i := 0) (u := .slice pc1 nc1 cc1) (fun b (hb : W.heap.size ≤ b) => by omega) HT1.out))
  clear y1 x1
  generalize ((w1.setCell ⟨w.heap.size, 0, none⟩ (.slice pc1 nc1 cc1)).setCell ⟨w.heap.size, 1, none⟩ (.slice pr1 nr1 cr1)) = WF at *
  refine bodyPost_ret (v := .agg #[.slice pc1 nc1 cc1, .slice pr1 nr1 cr1]) ?hv rfl ⟨_, rfl, HTf.out.imp (fun _ _ => trivial), HBf.out⟩
  case hv =>
    have kcf := block_cell KF
    clear KF
    simp [results, Tryz.results13, go_sem, kcf]
theorem enters_filter1 : ∀ args w, (callFunc 13 args).run Tryz.prog w = .ok (.enter 13 args) w := enters_of Tryz.func13 (by kernel_rfl) rfl
set_option maxRecDepth 100000 in
set_option maxHeartbeats 4000000 in
theorem filter_any {tv nv : Value} {cs : List TN.Cl} {rs : List TN.Rw} {qs : List Nx} {i : Int} {w : World} (ht : TN.TabAt w tv cs rs) (hq : Qx (fun b => b < w.heap.size) w nv qs) (hl : qs.length ≤ 1000) (hM : Mx w) (hz : ∀ r ∈ rs, Rsz r) (hrl : rs.length ≤ 1000000) : Calls Tryz.prog 6 #[tv, .agg #[nv], .int .i64 i] w fun e w' => ∃ v', e = .returned (.tuple #[v', .int .i64 (RO.runE cs rs true)]) ∧ RO.TabE (RO.okE cs rs true) w w' v' cs (TN.sortR (rs.filter (holdsX cs qs i))) ∧ Below w.heap.size w w' := by
  obtain ⟨c, rv, rfl, hc, hs, hr, hh⟩ := ht
  have HT := hid (show TN.TabAt w (.agg #[c, rv]) cs rs from ⟨c, rv, rfl, hc, hs, hr, hh⟩)
  obtain ⟨pc, cc, rfl, -⟩ := id hc
  obtain ⟨pr, cr, rfl, -⟩ := id hr
  obtain ⟨pn, cn, rfl, -, -⟩ := hq.sl.form
  clear hc hr hh
  obtain ⟨W, hW⟩ : ∃ W, W = (((w.alloc (.cells #[.slice pc cs.length cc, .slice pr hs.length cr] 25)).alloc (.cells #[.slice pn qs.length cn] 28)).alloc (.cells #[.int .i64 i] 3)).alloc (.cells #[.slice none 0 0, .slice none 0 0] 25) := ⟨_, rfl⟩
  have hb1 : Below w.heap.size w (w.alloc (.cells #[.slice pc cs.length cc, .slice pr hs.length cr] 25)) := (Below.refl _ _).alloc (Nat.le_refl _) _
  have hb2 := hb1.alloc hb1.size (.cells #[.slice pn qs.length cn] 28)
  have hb3 := hb2.alloc hb2.size (.cells #[.int .i64 i] 3)
  have hb4 := hb3.alloc hb3.size (.cells #[.slice none 0 0, .slice none 0 0] 25)
  rw [← hW] at hb4
  have k0 : W.heap[w.heap.size]? = some (.cells #[.slice pc cs.length cc, .slice pr hs.length cr] 25 (0, 0)) := by
    rw [hW]; exact block_on (block_on (block_on (alloc_block w _) ((Below.refl _ _).alloc (Nat.le_refl _) _)) ((Below.refl _ _).alloc (Nat.le_refl _) _)) ((Below.refl _ _).alloc (Nat.le_refl _) _)
  have k1 : W.heap[w.heap.size + 1]? = some (.cells #[.slice pn qs.length cn] 28 (0, 0)) := by
    rw [hW]; exact block_on (block_on (by have := alloc_block (w.alloc (.cells #[.slice pc cs.length cc, .slice pr hs.length cr] 25)) (.cells #[.slice pn qs.length cn] 28); simpa using this) ((Below.refl _ _).alloc (Nat.le_refl _) _)) ((Below.refl _ _).alloc (Nat.le_refl _) _)
  have k2 : W.heap[w.heap.size + 1 + 1]? = some (.cells #[.int .i64 i] 3 (0, 0)) := by
    rw [hW]; exact block_on (by have := alloc_block ((w.alloc (.cells #[.slice pc cs.length cc, .slice pr hs.length cr] 25)).alloc (.cells #[.slice pn qs.length cn] 28)) (.cells #[.int .i64 i] 3); simpa using this) ((Below.refl _ _).alloc (Nat.le_refl _) _)
  have k3 : W.heap[w.heap.size + 1 + 1 + 1]? = some (.cells #[.slice none 0 0, .slice none 0 0] 25 (0, 0)) := by
    rw [hW]; have := alloc_block (((w.alloc (.cells #[.slice pc cs.length cc, .slice pr hs.length cr] 25)).alloc (.cells #[.slice pn qs.length cn] 28)).alloc (.cells #[.int .i64 i] 3)) (.cells #[.slice none 0 0, .slice none 0 0] 25); simpa using this
  have HB := hid hb4
  have K3 := hid k3
  have HW := hid hW
  have y0 := block_cell k0
  have hR2 := lt_of_block k3
  have hW2 := hb4.size
  have HRn := hid (RO.run_any (mb := true) (cs' := cs) (rs' := rs.filter (holdsX cs qs i)) (cb := #[dp w.heap.size, dp (w.heap.size + 1), dp (w.heap.size + 1 + 1)]) (g := 13) (HT.out.on hb4) enters_filter1 (fun _ _ W2 hbW => filter1_any (HT.out.on (TN.below_on hb4 hbW)) (qx_lt hq (TN.below_on hb4 hbW)) (block_cell (block_on k0 hbW) 0) (block_cell (block_on k0 hbW) 1) (block_cell (block_on k1 hbW) 0) (block_cell (block_on k2 hbW) 0) hl (hM.on (TN.below_on hb4 hbW)) hz hrl))
  clear hW hb1 hb2 hb3 hb4 k0 k1 k2 k3 hq hM hz hl
  go_enter Tryz.func6, Tryz.ntmps6
  go_upto_region 1 with fail
  rw [← HW.out]
  clear HW
  go_wp2_with (first | (go_at_call 12; refine HRn.out.mono ?_; rintro e w3 ⟨v3, rfl, ht3, hb3⟩; have HT3 := hid ht3; have HB3 := hid hb3; have K23 := hid (block_on K3.out hb3); have y23 := block_cell K23.out; have x23 := block_frozen K23.out; obtain ⟨pc3, n3, cc3, pr3, m3, cr3, rfl⟩ := RO.tabE_form ht3; clear ht3 hb3))
  refine bodyPost_ret (v := .tuple #[.agg #[.slice pc3 n3 cc3, .slice pr3 m3 cr3], .int .i64 (RO.runE cs rs true)]) ?hv5 rfl ⟨_, rfl, ?ht5, TN.below_set (TN.below_set (TN.below_on HB.out HB3.out) (by omega)) (by omega)⟩
  case ht5 =>
    have h1 := TN.TabIn.set (R := w.heap.size + 1 + 1 + 1) (i := 1) (u := .slice pr3 m3 cr3) (fun b (hb : W.heap.size ≤ b) => by omega) (TN.TabIn.set (R := w.heap.size + 1 + 1 + 1) (i := 0) (u := .slice pc3 n3 cc3) (fun b (hb : W.heap.size ≤ b) => by omega) HT3.out)
    exact TN.TabIn.imp h1 (fun b (hb : W.heap.size ≤ b) => by omega)
  case hv5 =>
    have KF := block_set (block_set K23.out 0 (.slice pc3 n3 cc3)) 1 (.slice pr3 m3 cr3)
    clear y23 x23
    generalize ((w3.setCell ⟨w.heap.size + 1 + 1 + 1, 0, none⟩ (.slice pc3 n3 cc3)).setCell ⟨w.heap.size + 1 + 1 + 1, 1, none⟩ (.slice pr3 m3 cr3)) = WF at KF ⊢
    have kcf := block_cell KF
    clear KF
    simp [results, Tryz.results6, go_sem, kcf]
theorem rcanon_l {B : Nat} {v : Value} {cs : List TN.Cl} {rs : List TN.Rw} {w : World} (hv : TN.TabIn (fun b => B ≤ b) w v cs rs) (hB : B ≤ w.heap.size) : Calls Tryz.prog 16 #[v] w fun e w' => ∃ v', e = .returned v' ∧ TN.TabIn (fun b => B ≤ b) w' v' cs (TN.sortR rs) ∧ Below w.heap.size w w' := by
  obtain ⟨c, r, rfl, hc, hs, hr, hh⟩ := hv
  refine (TN.rcanon_q (Q := fun b => B ≤ b ∧ b < w.heap.size) (fun b hb => hb.2) (hc.imp (fun _ _ => trivial)) (hr.imp (fun _ _ => trivial)) (RO.headsLow hh)).mono ?_
  rintro e w' ⟨c', r', hs', rfl, h1, h2, h3, hb⟩
  exact ⟨_, rfl, ⟨c', r', rfl, h1.imp (fun b (hb : w.heap.size ≤ b) => by omega), hs', h2.imp (fun b (hb : w.heap.size ≤ b) => by omega), h3.imp (fun b hb => hb.1)⟩, hb⟩
theorem runE_true (cs : List TN.Cl) (rs : List TN.Rw) : RO.runE cs rs true = TN.checkV cs rs := by
  unfold RO.runE
  by_cases h : TN.checkV cs rs = 0
  · rw [if_pos h, h]; rfl
  · rw [if_neg h]
theorem okE_true (cs : List TN.Cl) (rs : List TN.Rw) : RO.okE cs rs true = decide (TN.checkV cs rs = 0) := by unfold RO.okE; rw [Bool.and_true]
set_option maxRecDepth 100000 in
set_option maxHeartbeats 4000000 in
theorem rfilter_any {tv nv : Value} {cs : List TN.Cl} {rs : List TN.Rw} {qs : List Nx} {i : Int} {w : World} (ht : TN.TabAt w tv cs rs) (hq : Qx (fun b => b < w.heap.size) w nv qs) (hl : qs.length ≤ 1000) (hz : ∀ r ∈ rs, Rsz r) (hvs : ∀ q ∈ qs, (St q.np.vs).size ≤ 1000000000000) (hrl : rs.length ≤ 1000000) : Calls Tryz.prog 7 #[tv, .agg #[nv], .int .i64 i] w fun e w' => ∃ v', e = .returned (.tuple #[v', .int .i64 (RO.runE cs rs true)]) ∧ RO.FormT v' ∧ RO.TabR (RO.okE cs rs true) w' v' cs (TN.sortR (rs.filter (holdsX cs qs i))) ∧ Below w.heap.size w w' := by
  rw [runE_true, okE_true]
  obtain ⟨c, rv, rfl, hc, hs, hr, hh⟩ := ht
  have HT := hid (show TN.TabAt w (.agg #[c, rv]) cs rs from ⟨c, rv, rfl, hc, hs, hr, hh⟩)
  have HC := hid hc
  have HR := hid hr
  have HH := hid hh
  obtain ⟨pc, cc, rfl, -⟩ := id hc
  obtain ⟨pr, cr, rfl, -⟩ := id hr
  obtain ⟨pn, cn, rfl, -, -⟩ := hq.sl.form
  clear hc hr hh
  obtain ⟨W, hW⟩ : ∃ W, W = ((w.alloc (.cells #[.slice pc cs.length cc, .slice pr hs.length cr] 25)).alloc (.cells #[.slice pn qs.length cn] 28)).alloc (.cells #[.slice none 0 0, .slice none 0 0] 25) := ⟨_, rfl⟩
  have hb1 : Below w.heap.size w (w.alloc (.cells #[.slice pc cs.length cc, .slice pr hs.length cr] 25)) := (Below.refl _ _).alloc (Nat.le_refl _) _
  have hb2 := hb1.alloc hb1.size (.cells #[.slice pn qs.length cn] 28)
  have hb4 := hb2.alloc hb2.size (.cells #[.slice none 0 0, .slice none 0 0] 25)
  rw [← hW] at hb4
  have k0 : W.heap[w.heap.size]? = some (.cells #[.slice pc cs.length cc, .slice pr hs.length cr] 25 (0, 0)) := by
    rw [hW]; exact block_on (block_on (alloc_block w _) ((Below.refl _ _).alloc (Nat.le_refl _) _)) ((Below.refl _ _).alloc (Nat.le_refl _) _)
  have k1 : W.heap[w.heap.size + 1]? = some (.cells #[.slice pn qs.length cn] 28 (0, 0)) := by
    rw [hW]; exact block_on (by have := alloc_block (w.alloc (.cells #[.slice pc cs.length cc, .slice pr hs.length cr] 25)) (.cells #[.slice pn qs.length cn] 28); simpa using this) ((Below.refl _ _).alloc (Nat.le_refl _) _)
  have k3 : W.heap[w.heap.size + 1 + 1]? = some (.cells #[.slice none 0 0, .slice none 0 0] 25 (0, 0)) := by
    rw [hW]; have := alloc_block ((w.alloc (.cells #[.slice pc cs.length cc, .slice pr hs.length cr] 25)).alloc (.cells #[.slice pn qs.length cn] 28)) (.cells #[.slice none 0 0, .slice none 0 0] 25); simpa using this
  have HB := hid hb4
  have K0 := hid k0
  have K1 := hid k1
  have K3 := hid k3
  have HW := hid hW
  have y0 := block_cell k0
  have hR2 := lt_of_block k3
  have HCK := hid (TN.rcheck_any (HT.out.on hb4))
  have HWh := hid (fun W2 (hb : Below w.heap.size w W2) => rwhere15_any (i := i) (qx_lt hq hb) hl (HC.out.on hb) (HR.out.on hb) (TN.HeadsIn.on HH.out hb) (fun _ _ _ r hr => hz r hr) hvs hrl)
  have HRL := hid hrl
  generalize hzc : TN.checkV cs rs = z at *
  clear hW hb1 hb2 hb4 k0 k1 k3 hq hz hl hzc
  generalize hok : decide (z = 0) = ok
  go_enter Tryz.func7, Tryz.ntmps7
  go_upto_region 1 with fail
  rw [← HW.out]
  clear HW
  by_cases hck : z = 0
  · subst hck
    have ho : ok = true := by rw [← hok]; exact decide_eq_true rfl
    subst ho
    clear hok
    go_wp2_with (first
      | (go_at_call 15; refine HCK.out.mono ?_; rintro e w1 ⟨rfl, hb⟩; have HS1 := hid hb.size; have HB1 := hid (TN.below_on HB.out hb); have K01 := hid (block_on K0.out hb); have K11 := hid (block_on K1.out hb); have K31 := hid (block_on K3.out hb); have y1 := block_cell K01.out; have y2 := block_cell K11.out; clear hb y0)
      | (go_at_call 17; refine (HWh.out _ HB1.out).mono ?_; rintro e w2 ⟨cv2, rv2, hs2, rfl, hc2, hr2, hb⟩; have ht2 := whp_tab hc2 hr2 (filt_len HRL.out); have HT2 := hid ht2; have HS2 := hid hb.size; obtain ⟨pc2, nc2, cc2, pr2, nr2, cr2, e2⟩ := tab_formP ht2; cases e2; have HB2 := hid (TN.below_on HB1.out hb); have K32 := hid (block_on K31.out hb); clear hc2 hr2 ht2 hb y1 y2)
      | (go_at_call 16; refine (rcanon_l HT2.out HS2.out).mono ?_; rintro e w3 ⟨v3, rfl, ht3, hb⟩; have HT3 := hid ht3; obtain ⟨pc3, nc3, cc3, pr3, nr3, cr3, rfl⟩ := tab_formP ht3; have HB3 := hid (TN.below_on HB2.out hb); have K33 := hid (block_on K32.out hb); have y3 := block_cell K33.out; have x3 := block_frozen K33.out; clear ht3 hb))
    refine bodyPost_ret (v := .tuple #[.agg #[.slice pc3 nc3 cc3, .slice pr3 nr3 cr3], .int .i64 0]) ?hv rfl ⟨_, rfl, ⟨_, _, _, _, _, _, rfl⟩, ?ht, TN.below_set (TN.below_set HB3.out (by omega)) (by omega)⟩
    case ht =>
      have h1 := TN.TabIn.set (R := w.heap.size + 1 + 1) (i := 1) (u := .slice pr3 nr3 cr3) (fun b (hb : w1.heap.size ≤ b) => by have := HS1.out; omega) (TN.TabIn.set (R := w.heap.size + 1 + 1) (i := 0) (u := .slice pc3 nc3 cc3) (fun b (hb : w1.heap.size ≤ b) => by have := HS1.out; omega) HT3.out)
      exact TN.TabIn.imp h1 (fun _ _ => trivial)
    case hv =>
      have KF := block_set (block_set K33.out 0 (.slice pc3 nc3 cc3)) 1 (.slice pr3 nr3 cr3)
      clear y3 x3
      generalize ((w3.setCell ⟨w.heap.size + 1 + 1, 0, none⟩ (.slice pc3 nc3 cc3)).setCell ⟨w.heap.size + 1 + 1, 1, none⟩ (.slice pr3 nr3 cr3)) = WF at KF ⊢
      have kcf := block_cell KF
      clear KF
      simp [results, Tryz.results7, go_sem, kcf]
  · have zb : (z != 0) = true := by simp; exact hck
    have ho : ok = false := by rw [← hok]; exact decide_eq_false hck
    subst ho
    clear hok
    go_wp2_with (first
      | (go_at_call 15; refine HCK.out.mono ?_; rintro e w1 ⟨rfl, hb⟩; have HB1 := hid (TN.below_on HB.out hb); have K31 := hid (block_on K3.out hb); have y1 := block_cell K31.out; have x1 := block_frozen K31.out; clear hb y0))
    refine bodyPost_ret (v := .tuple #[.agg #[.slice none 0 0, .slice none 0 0], .int .i64 z]) ?hv2 rfl ⟨_, rfl, ⟨_, _, _, _, _, _, rfl⟩, RO.TabR.no _ _, TN.below_set (TN.below_set HB1.out (by omega)) (by omega)⟩
    case hv2 =>
      have KF := block_set (block_set K31.out 0 (.slice none 0 0)) 1 (.slice none 0 0)
      clear y1 x1
      generalize ((w1.setCell ⟨w.heap.size + 1 + 1, 0, none⟩ (.slice none 0 0)).setCell ⟨w.heap.size + 1 + 1, 1, none⟩ (.slice none 0 0)) = WF at KF ⊢
      have kcf := block_cell KF
      clear KF
      simp [results, Tryz.results7, go_sem, kcf]
end Go.Proofs.YtcidijjbcebcbaaGreat.PD
