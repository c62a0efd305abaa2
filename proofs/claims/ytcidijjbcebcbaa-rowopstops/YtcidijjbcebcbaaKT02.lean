/-
  The reference's Top takes the best row away, again and again: tags and memory.
-/
import Derived.Test.YtcidijjbcebcbaaKW16
import Derived.Test.YtcidijjbcebcbaaKW21
import Derived.Test.YtcidijjbcebcbaaKT01
namespace Go.Proofs.Ytcidijjbcebcbaa.RO
open Go.RowKit Go.Joins Go.Sort

/- The best of the first i. -/
def Bst (p : Nat) (S : List TN.Rw) (q : List Nat) (i b : Nat) : Prop := b < i ∧ ∀ j, j < i → j ≠ b → SS.lt (cAt p S) (q.getD b 0) (q.getD j 0)
theorem Bst.one (p : Nat) (S : List TN.Rw) (q : List Nat) : Bst p S q 1 0 := ⟨by omega, fun j h1 h2 => by omega⟩
theorem rise_get {q : List Nat} (hq : q.Pairwise (· < ·)) {i j : Nat} (hij : i < j) (hj : j < q.length) : q.getD i 0 < q.getD j 0 := by
  rw [List.getD_eq_getElem?_getD, List.getD_eq_getElem?_getD, List.getElem?_eq_getElem hj, List.getElem?_eq_getElem (by omega : i < q.length)]
  exact List.pairwise_iff_getElem.1 hq i j (by omega) hj hij
theorem Bst.keep {p : Nat} {S : List TN.Rw} {q : List Nat} {i b : Nat} (hq : q.Pairwise (· < ·)) (hi : i < q.length) (h : Bst p S q i b) (hc : ¬ 0 < TN.cmpL (key p (row S (q.getD i 0))) (key p (row S (q.getD b 0)))) : Bst p S q (i + 1) b := by
  refine ⟨by have := h.1; omega, fun j h1 h2 => ?_⟩
  by_cases e : j = i
  · subst e
    have h3 := rise_get hq h.1 hi
    unfold SS.lt cAt
    omega
  · exact h.2 j (by omega) h2
theorem Bst.new {p : Nat} {S : List TN.Rw} {q : List Nat} {i b : Nat} (h : Bst p S q i b) (hc : 0 < TN.cmpL (key p (row S (q.getD i 0))) (key p (row S (q.getD b 0)))) : Bst p S q (i + 1) i := by
  have h0 : SS.lt (cAt p S) (q.getD i 0) (q.getD b 0) := by
    left
    have := TN.neg_cmpL (key p (row S (q.getD i 0))) (key p (row S (q.getD b 0)))
    unfold cAt
    omega
  refine ⟨by omega, fun j h1 h2 => ?_⟩
  by_cases e : j = b
  · subst e; exact h0
  · exact SS.lt_trans (cAt_cm p S) h0 (h.2 j (by omega) e)
theorem Bst.next {p : Nat} {S : List TN.Rw} {o q : List Nat} {b : Nat} (h : Bst p S q q.length b) (hs : Sel p S o q) : Sel p S (o ++ [q.getD b 0]) (q.take b ++ q.drop (b + 1)) := by
  have hb := h.1
  have e : q[b]? = some (q.getD b 0) := by rw [List.getD_eq_getElem?_getD, List.getElem?_eq_getElem hb]; rfl
  refine hs.next e (fun y hy hne => ?_)
  obtain ⟨j, hj, rfl⟩ := List.getElem_of_mem hy
  have ej : q.getD j 0 = q[j] := by rw [List.getD_eq_getElem?_getD, List.getElem?_eq_getElem hj]; rfl
  rw [← ej]
  exact h.2 j hj (fun e => hne (by rw [← ej, e]))
theorem Sel.lt {p : Nat} {S : List TN.Rw} {o q : List Nat} (h : Sel p S o q) : ∀ i, i ∈ o ∨ i ∈ q → i < S.length := fun _ hi => List.mem_range.1 (h.perm.mem_iff.1 (List.mem_append.2 hi))
theorem Sel.len {p : Nat} {S : List TN.Rw} {o q : List Nat} (h : Sel p S o q) : o.length + q.length = S.length := by
  have := h.perm.length_eq
  rwa [List.length_append, List.length_range] at this
theorem Sel.fin {p n : Nat} {rs : List TN.Rw} {o q : List Nat} (h : Sel p (TN.sortR rs) o q) (hn : o.length ≤ n) (he : o.length = n ∨ q.length = 0) : TN.sortR (o.map (row (TN.sortR rs))) = topR p n rs := by
  have hd := h.done (TN.sortR_up rs)
  rw [← hd, ← topR_sort]
  unfold topR
  rcases he with e | e
  · rw [e]
  · have hl := h.len
    rw [List.take_of_length_le (by rw [topL_length]; omega), List.take_of_length_le (by rw [topL_length]; omega)]
/- The heads by their tags. -/
def hd (hs : List Value) (i : Nat) : Value := hs.getD i (.slice none 0 0)
theorem hd_get {hs : List Value} {i : Nat} (h : i < hs.length) : hs[i]? = some (hd hs i) := by unfold hd; rw [List.getD_eq_getElem?_getD, List.getElem?_eq_getElem h]; rfl
theorem hd_range (hs : List Value) : (List.range hs.length).map (hd hs) = hs := by
  apply List.ext_getElem?
  intro i
  rw [List.getElem?_map]
  by_cases h : i < hs.length
  · rw [List.getElem?_range h, Option.map_some, hd_get h]
  · rw [List.getElem?_eq_none (by simp; omega), List.getElem?_eq_none (by omega)]; rfl
theorem heads_map {Q : Nat → Prop} {w : World} {hs : List Value} {S : List TN.Rw} (h : TN.HeadsIn Q w hs S) {o : List Nat} (ho : ∀ i ∈ o, i < S.length) : TN.HeadsIn Q w (o.map (hd hs)) (o.map (row S)) := by
  refine ⟨by simp, fun j x r h1 h2 => ?_⟩
  rw [List.getElem?_map] at h1 h2
  cases e : o[j]? with
  | none => rw [e] at h1; cases h1
  | some i =>
    rw [e, Option.map_some, Option.some.injEq] at h1 h2
    subst h1 h2
    have hi := ho i (List.mem_of_getElem? e)
    refine h.2 i _ _ (hd_get (by rw [h.1]; exact hi)) ?_
    rw [row_get hi, List.getElem?_eq_getElem hi]
theorem row_hd {w : World} {hs : List Value} {S : List TN.Rw} (h : TN.HeadsIn TN.any w hs S) {i : Nat} (hi : i < S.length) : TN.RowAt w (hd hs i) (row S i) := by
  refine h.2 i _ _ (hd_get (by rw [h.1]; exact hi)) ?_
  rw [row_get hi, List.getElem?_eq_getElem hi]
theorem big1 {n : Nat} (h : n ≤ 1000000) : n * TN.bsz 1 ≤ 140737488355328 := Nat.le_trans (Nat.mul_le_mul_right _ h) (by decide)
structure TS (w5 : World) (N : Nat) (cv : Value) (hs : List Value) (p : Nat) (S : List TN.Rw) (wr : World) (o q : List Nat) (ov lv : Value) : Prop where
  t10 : wr.heap[N]? = some (.cells #[cv, lv] 28 (0, 0))
  t11 : wr.heap[N + 1]? = some (.cells #[cv, ov] 28 (0, 0))
  bel : Below N w5 wr
  own : TN.Own TN.one 1 33 (N + 2) wr ov (o.map (hd hs))
  left : TN.SlAt (fun b => b ≠ N ∧ b ≠ N + 1 ∧ ov.ownBlock ≠ some b) TN.one 1 wr lv (q.map (hd hs))
  sel : Sel p S o q
structure TM (w5 : World) (N : Nat) (cv : Value) (hs : List Value) (wr : World) (o q : List Nat) (ov lv : Value) : Prop where
  t10 : wr.heap[N]? = some (.cells #[cv, lv] 28 (0, 0))
  t11 : wr.heap[N + 1]? = some (.cells #[cv, ov] 28 (0, 0))
  bel : Below N w5 wr
  own : TN.Own TN.one 1 33 (N + 2) wr ov (o.map (hd hs))
  left : TN.SlAt TN.any TN.one 1 wr lv (q.map (hd hs))
section
variable {w5 : World} {N : Nat} {cv : Value} {hs : List Value} {p : Nat} {S : List TN.Rw} {wr w' : World} {o q : List Nat} {ov lv : Value}
theorem TS.size (h : TS w5 N cv hs p S wr o q ov lv) : N + 2 ≤ wr.heap.size := lt_of_block h.t11
theorem TM.size (h : TM w5 N cv hs wr o q ov lv) : N + 2 ≤ wr.heap.size := lt_of_block h.t11
theorem TS.on (h : TS w5 N cv hs p S wr o q ov lv) (hb : Below wr.heap.size wr w') : TS w5 N cv hs p S w' o q ov lv :=
  ⟨block_on h.t10 hb, block_on h.t11 hb, h.bel.trans (hb.mono (by have := h.size; omega)), TN.Own.on h.own hb, TN.SlAt.on h.left hb, h.sel⟩
theorem TM.on (h : TM w5 N cv hs wr o q ov lv) (hb : Below wr.heap.size wr w') : TM w5 N cv hs w' o q ov lv :=
  ⟨block_on h.t10 hb, block_on h.t11 hb, h.bel.trans (hb.mono (by have := h.size; omega)), TN.Own.on h.own hb, TN.SlAt.on h.left hb⟩
theorem TS.app {W w4 : World} {x : Nat} {v4 : Value} (h : TS w5 N cv hs p S W o q ov lv) (ho : TN.Own TN.one 1 33 (N + 2) w4 v4 (o.map (hd hs) ++ [hd hs x])) (hb : Below (N + 2) W w4) (hg : W.grownBy w4 ov.ownBlock) : TM w5 N cv hs (w4.setCell ⟨N + 1, 1, none⟩ v4) (o ++ [x]) q v4 lv := by
  have h10 : w4.heap[N]? = some (.cells #[cv, lv] 28 (0, 0)) := (hb.block N (by omega)).trans h.t10
  have h11 : w4.heap[N + 1]? = some (.cells #[cv, ov] 28 (0, 0)) := (hb.block (N + 1) (by omega)).trans h.t11
  have hk : Kp (fun k => ov.ownBlock = some k) W w4 := Kp.grown hg (fun k e => e)
  have hs' : Kp (fun k => k = N + 1) w4 (w4.setCell ⟨N + 1, 1, none⟩ v4) := Kp.set (T := fun k => k = N + 1) rfl _
  refine ⟨TN.far_set h10 (by omega), block_set h11 1 v4, ?_, ?_, ?_⟩
  · exact TN.below_set (h.bel.trans (hb.mono (by omega))) (by omega)
  · rw [List.map_append]
    exact (show Own TN.one 1 33 (N + 2) _ v4 _ from (show Own TN.one 1 33 (N + 2) w4 v4 _ from ho).kp hs' (fun g hg' e => by have := (Own.at (show Own TN.one 1 33 (N + 2) w4 v4 _ from ho) hg').1; omega))
  · exact (TN.SlAt.imp (PD.tnSl_kp (PD.tnSl_kp h.left hk (fun b hb' e => hb'.2.2 e)) hs' (fun b hb' e => hb'.2.1 e)) (fun _ _ => trivial))
theorem TM.cut {W : World} {q' : List Nat} {v6 : Value} (h : TM w5 N cv hs wr o q ov lv) (hb : Below wr.heap.size wr W) (ho : TN.Own TN.one 1 33 wr.heap.size W v6 (q'.map (hd hs))) (hl : q'.length ≤ 1000000) (hsel : Sel p S o q') : TS w5 N cv hs p S (W.setCell ⟨N, 1, none⟩ v6) o q' ov v6 := by
  have hsz := h.size
  have hs' : Kp (fun k => k = N) W (W.setCell ⟨N, 1, none⟩ v6) := Kp.set (T := fun k => k = N) rfl _
  have h1 := h.on hb
  have ho' : Own TN.one 1 33 wr.heap.size (W.setCell ⟨N, 1, none⟩ v6) v6 (q'.map (hd hs)) := (show Own TN.one 1 33 wr.heap.size W v6 _ from ho).kp hs' (fun g hg' e => by have := (Own.at (show Own TN.one 1 33 wr.heap.size W v6 _ from ho) hg').1; omega)
  refine ⟨block_set h1.t10 1 v6, TN.far_set h1.t11 (by omega), TN.below_set h1.bel (Nat.le_refl _), ?_, ?_, hsel⟩
  · exact (show Own TN.one 1 33 (N + 2) _ ov _ from (show Own TN.one 1 33 (N + 2) W ov _ from h1.own).kp hs' (fun g hg' e => by have := (Own.at (show Own TN.one 1 33 (N + 2) W ov _ from h1.own) hg').1; omega))
  · have h3 := TN.Own.sl (show TN.Own TN.one 1 33 wr.heap.size (W.setCell ⟨N, 1, none⟩ v6) v6 _ from ho') TN.one_len (big1 (by rw [List.length_map]; exact hl))
    refine TN.SlAt.imp h3 (fun b hb' => ⟨by omega, by omega, fun e => ?_⟩)
    have := (Own.at (show Own TN.one 1 33 (N + 2) wr ov _ from h.own) e).2
    omega
theorem TS.form (h : TS w5 N cv hs p S wr o q ov lv) : ∃ po co pl cl, ov = .slice po o.length co ∧ lv = .slice pl q.length cl := by
  obtain ⟨po, co, e⟩ := Own.form (show Own TN.one 1 33 (N + 2) wr ov _ from h.own)
  obtain ⟨pl, cl, e2, -⟩ := h.left
  rw [List.length_map] at e e2
  exact ⟨po, co, pl, cl, e, e2⟩
theorem TS.at {L : Nat} (h : TS w5 N cv hs p S wr o q ov lv) (hN : w5.heap.size = N) (hh : TN.HeadsIn (fun b => b < w5.heap.size) w5 hs S) (hL : ∀ r ∈ S, r.length = L) (hp : p < L) (hne : 0 < q.length) : ∃ gl ol cl, lv = .slice (some ⟨gl, ol, none⟩) q.length cl ∧ ∀ j, j < q.length → ∃ bj oj cj, hd hs (q.getD j 0) = .slice (some ⟨bj, oj, none⟩) L cj ∧ wr.cell? ⟨gl, ol + j, none⟩ = some (.slice (some ⟨bj, oj, none⟩) L cj) ∧ TN.ValCells wr bj (oj + p * 11) (key p (row S (q.getD j 0))) := by
  obtain ⟨pl, cl, e2, -, -, hx⟩ := h.left
  rw [List.length_map] at e2
  obtain ⟨gl, ol, rfl, -, hc⟩ := hx (by intro e; have := congrArg List.length e; rw [List.length_map] at this; simp at this; subst this; simp at hne)
  refine ⟨gl, ol, cl, e2, fun j hj => ?_⟩
  have eq : q[j]? = some (q.getD j 0) := by rw [List.getD_eq_getElem?_getD, List.getElem?_eq_getElem hj]; rfl
  have hi : q.getD j 0 < S.length := h.sel.lt _ (.inr (List.mem_of_getElem? eq))
  have hrm : row S (q.getD j 0) ∈ S := by rw [row_get hi]; exact List.getElem_mem _
  have hr := row_hd ((TN.HeadsIn.on hh (by rw [hN]; exact h.bel)).imp (fun _ _ => trivial)) hi
  have hl := hL _ hrm
  obtain ⟨bj, oj, cj, e3, hv⟩ := row_at hr (p := p) (by rw [hl]; exact hp)
  rw [hl] at e3
  have h1 := hc j (hd hs (q.getD j 0)) (by rw [List.getElem?_map, eq]; rfl) 0 _ rfl
  exact ⟨bj, oj, cj, e3, by rw [← e3]; simpa using h1, TN.val_cells hv⟩
theorem TS.tab {cs : List TN.Cl} (h : TS w5 N cv hs p S wr o q ov lv) (hN : w5.heap.size = N) (hc : TN.SlAt (fun b => TN.any b ∧ b < w5.heap.size) TN.Cl.cells 2 w5 cv cs) (hh : TN.HeadsIn (fun b => b < w5.heap.size) w5 hs S) (hl : o.length ≤ 1000000) : TN.TabAt wr (.agg #[cv, ov]) cs (o.map (row S)) :=
  ⟨_, _, rfl, (TN.SlAt.on hc (by rw [hN]; exact h.bel)).imp (fun _ _ => trivial), o.map (hd hs), own_tn (show Own TN.one 1 33 (N + 2) wr ov _ from h.own) (by rw [List.length_map]; exact hl), (heads_map (TN.HeadsIn.on hh (by rw [hN]; exact h.bel)) (fun i hi => h.sel.lt i (.inl hi))).imp (fun _ _ => trivial)⟩
end
end Go.Proofs.Ytcidijjbcebcbaa.RO
