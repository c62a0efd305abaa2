/-
  The rows that come first, as mathematics.
  A row of heads that is sorted in place: how it lies in memory, exchanges, swapRange, rotate.
  rotate: two stretches change places.
-/
import Derived.Test.YtcidijjbcebcbaaKH02
import Derived.Test.YtcidijjbcebcbaaKH10
import Derived.Test.YtcidijjbcebcbaaKI03
import Derived.BigRegion
import Derived.RegionTactic
import Derived.LoopTactic
import Derived.Deep.QuietTactic
namespace Go.Proofs.Ytcidijjbcebcbaa.RO
open Go.RowKit

def v0 : TN.Vl := ⟨0, 0, ⟨#[]⟩, 0, 0, 0, 0, 0, 0, 0, 0, by decide⟩
def key (p : Nat) (r : TN.Rw) : TN.Vl := r.getD p v0
/- A row comes no later than another: by a greater value in a column, then by canonical order. -/
def LeT (p : Nat) (x y : TN.Rw) : Prop := TN.cmpL (key p y) (key p x) < 0 ∨ (TN.cmpL (key p y) (key p x) = 0 ∧ TN.cmpR x y ≤ 0)
instance (p : Nat) (x y : TN.Rw) : Decidable (LeT p x y) := by unfold LeT; infer_instance
def leT (p : Nat) (x y : TN.Rw) : Bool := decide (LeT p x y)
theorem cmpR_self (x : TN.Rw) : TN.cmpR x x = 0 := (TN.cmpR_zero x x).2 rfl
theorem leT_trans {p : Nat} {x y z : TN.Rw} (h1 : LeT p x y) (h2 : LeT p y z) : LeT p x z := by
  unfold LeT at *
  obtain ⟨a, b, c, d, e, f, g⟩ := TN.tri_cmpL (key p z) (key p y) (key p x)
  rcases h1 with h1 | ⟨h1, h1'⟩
  · rcases h2 with h2 | ⟨h2, h2'⟩
    · left; omega
    · left; omega
  · rcases h2 with h2 | ⟨h2, h2'⟩
    · left; omega
    · right; exact ⟨by omega, TN.cmpR_trans h1' h2'⟩
theorem leT_total (p : Nat) (x y : TN.Rw) : LeT p x y ∨ LeT p y x := by
  unfold LeT
  have h1 := TN.neg_cmpL (key p x) (key p y)
  have h2 := TN.neg_cmpR x y
  omega
theorem leT_anti {p : Nat} {x y : TN.Rw} (h1 : LeT p x y) (h2 : LeT p y x) : x = y := by
  unfold LeT at *
  have e1 := TN.neg_cmpL (key p x) (key p y)
  have e2 := TN.neg_cmpR x y
  exact (TN.cmpR_zero x y).1 (by omega)
theorem leT_refl (p : Nat) (x : TN.Rw) : LeT p x x := by rcases leT_total p x x with h | h <;> exact h
/- All rows, those that come first ahead. -/
def topL (p : Nat) (l : List TN.Rw) : List TN.Rw := l.mergeSort (leT p)
theorem topL_perm (p : Nat) (l : List TN.Rw) : (topL p l).Perm l := List.mergeSort_perm _ _
theorem topL_up (p : Nat) (l : List TN.Rw) : (topL p l).Pairwise (LeT p) := by
  have := List.pairwise_mergeSort (le := leT p) (fun a b c h1 h2 => by unfold leT at *; simp only [decide_eq_true_eq] at *; exact leT_trans h1 h2) (fun a b => by unfold leT; simp only [Bool.or_eq_true, decide_eq_true_eq]; exact leT_total p a b) l
  exact this.imp fun h => by unfold leT at h; simpa using h
theorem top_unique {p : Nat} {l m : List TN.Rw} (h : l.Pairwise (LeT p)) (hp : l.Perm m) : l = topL p m :=
  List.Perm.eq_of_pairwise (le := LeT p) (fun _ _ _ _ h1 h2 => leT_anti h1 h2) h (topL_up p m) (hp.trans (topL_perm p m).symm)
theorem topL_length (p : Nat) (l : List TN.Rw) : (topL p l).length = l.length := (topL_perm p l).length_eq
theorem topL_perm_eq {p : Nat} {l m : List TN.Rw} (h : l.Perm m) : topL p l = topL p m := top_unique (topL_up p l) ((topL_perm p l).trans h)

/- Tags of a canonical row of rows. -/
def row (S : List TN.Rw) (i : Nat) : TN.Rw := S.getD i []
def cAt (p : Nat) (S : List TN.Rw) (i j : Nat) : Int := TN.cmpL (key p (row S j)) (key p (row S i))
theorem cAt_cm (p : Nat) (S : List TN.Rw) : SS.Cm (cAt p S) where
  neg x y := TN.neg_cmpL _ _
  tr x y z h1 h2 := by
    unfold cAt at *
    obtain ⟨a, b, c, d, e, f, g⟩ := TN.tri_cmpL (key p (row S z)) (key p (row S y)) (key p (row S x))
    omega
theorem row_get {S : List TN.Rw} {i : Nat} (h : i < S.length) : row S i = S[i] := by unfold row; rw [List.getD_eq_getElem?_getD, List.getElem?_eq_getElem h]; rfl
theorem lt_le {p : Nat} {S : List TN.Rw} (hS : TN.upR S) {i j : Nat} (hi : i < S.length) (hj : j < S.length) (h : SS.lt (cAt p S) i j) : LeT p (row S i) (row S j) := by
  rcases h with h | ⟨h, hij⟩
  · exact Or.inl h
  · refine Or.inr ⟨h, ?_⟩
    rw [row_get hi, row_get hj]
    exact List.pairwise_iff_getElem.1 hS i j hi hj hij
theorem map_row (S : List TN.Rw) : (List.range S.length).map (row S) = S := by
  apply List.ext_getElem?
  intro i
  rw [List.getElem?_map]
  by_cases h : i < S.length
  · rw [List.getElem?_range h, List.getElem?_eq_getElem h, Option.map_some, row_get h]
  · rw [List.getElem?_eq_none (by simp; omega), List.getElem?_eq_none (by omega)]; rfl
theorem pm_perm {n : Nat} {g : Nat → Nat} (h : SS.Pm 0 n id g) : ((List.range n).map g).Perm (List.range n) := by
  have hi : SS.inj g := h.inj (fun i j e => e)
  refine (List.perm_ext_iff_of_nodup ?_ List.nodup_range).2 (fun a => ?_)
  · rw [List.nodup_iff_pairwise_ne, List.pairwise_map]
    exact (List.nodup_iff_pairwise_ne.1 List.nodup_range).imp (fun hne e => hne (hi _ _ e))
  · obtain ⟨s, t, a1, a2, a3, a4⟩ := h
    constructor
    · intro ha
      obtain ⟨i, h1, rfl⟩ := List.mem_map.1 ha
      have h2 : i < n := List.mem_range.1 h1
      obtain ⟨j, h3, h4, h5⟩ := SS.Pm.mem ⟨s, t, a1, a2, a3, a4⟩ i (Nat.zero_le _) h2
      rw [h5]; exact List.mem_range.2 h4
    · intro ha
      have ha' : a < n := List.mem_range.1 ha
      refine List.mem_map.2 ⟨t a, List.mem_range.2 ?_, by rw [a4, a1]; rfl⟩
      apply Decidable.byContradiction; intro hc
      have h3 := a3 (t a) (by omega)
      rw [a1] at h3
      omega
/- What the stable sort leaves of a canonical row of rows. -/
theorem sorted_top {p : Nat} {S : List TN.Rw} (hS : TN.upR S) {g : Nat → Nat} (hp : SS.Pm 0 S.length id g) (hu : SS.up (cAt p S) g 0 S.length) : (List.range S.length).map (fun i => row S (g i)) = topL p S := by
  have hg : ∀ i, i < S.length → g i < S.length := fun i hi => by obtain ⟨j, _, h2, h3⟩ := hp.mem i (Nat.zero_le _) hi; rw [h3]; exact h2
  refine top_unique ?_ ?_
  · rw [List.pairwise_map, List.pairwise_iff_getElem]
    intro i j hi hj hij
    rw [List.getElem_range, List.getElem_range]
    simp only [List.length_range] at hi hj
    exact lt_le hS (hg i hi) (hg j hj) (hu i j (Nat.zero_le _) hij hj)
  · have h := (pm_perm hp).map (row S)
    rw [List.map_map, map_row] at h
    exact h
/- The reference takes the best one away, again and again: o taken, q left, both as tags. -/
structure Sel (p : Nat) (S : List TN.Rw) (o q : List Nat) : Prop where
  perm : (o ++ q).Perm (List.range S.length)
  up : o.Pairwise (SS.lt (cAt p S))
  ahead : ∀ a ∈ o, ∀ b ∈ q, SS.lt (cAt p S) a b
  rise : q.Pairwise (· < ·)
theorem Sel.start (p : Nat) (S : List TN.Rw) : Sel p S [] (List.range S.length) := ⟨List.Perm.refl _, List.Pairwise.nil, fun a ha => absurd ha (by simp), List.pairwise_lt_range⟩
theorem Sel.next {p : Nat} {S : List TN.Rw} {o q : List Nat} (h : Sel p S o q) {b x : Nat} (hb : q[b]? = some x) (hx : ∀ y ∈ q, y ≠ x → SS.lt (cAt p S) x y) : Sel p S (o ++ [x]) (q.take b ++ q.drop (b + 1)) := by
  obtain ⟨hbl, hbx⟩ := List.getElem?_eq_some_iff.1 hb
  have hq : q = q.take b ++ x :: q.drop (b + 1) := by rw [← hbx, ← List.drop_eq_getElem_cons hbl, List.take_append_drop]
  have hmem : x ∈ q := List.mem_of_getElem? hb
  have hr := h.rise
  rw [hq] at hr
  obtain ⟨r1, r2, r3⟩ := List.pairwise_append.1 hr
  obtain ⟨r4, r5⟩ := List.pairwise_cons.1 r2
  have hne : ∀ y ∈ q.take b ++ q.drop (b + 1), y ∈ q ∧ y ≠ x := fun y hy => by
    rcases List.mem_append.1 hy with h1 | h1
    · exact ⟨List.mem_of_mem_take h1, fun e => by have := r3 y h1 x (by simp); omega⟩
    · exact ⟨List.mem_of_mem_drop h1, fun e => by have := r4 y h1; omega⟩
  refine ⟨?_, ?_, ?_, ?_⟩
  · refine List.Perm.trans ?_ h.perm
    rw [List.append_assoc]
    refine List.Perm.append_left o ?_
    conv => rhs; rw [hq]
    exact (List.perm_middle (a := x) (l₁ := q.take b) (l₂ := q.drop (b + 1))).symm
  · rw [List.pairwise_append]
    exact ⟨h.up, List.pairwise_singleton _ _, fun a ha c hc => by rw [List.mem_singleton.1 hc]; exact h.ahead a ha x hmem⟩
  · intro a ha c hc
    obtain ⟨h1, h2⟩ := hne c hc
    rcases List.mem_append.1 ha with h3 | h3
    · exact h.ahead a h3 c h1
    · rw [List.mem_singleton.1 h3]; exact hx c h1 h2
  · rw [List.pairwise_append]
    exact ⟨r1, r5, fun a ha c hc => r3 a ha c (by simp [hc])⟩
theorem Sel.done {p : Nat} {S : List TN.Rw} {o q : List Nat} (hS : TN.upR S) (h : Sel p S o q) : (topL p S).take o.length = o.map (row S) := by
  have hm : ∀ a ∈ o ++ q, a < S.length := fun a ha => List.mem_range.1 (h.perm.mem_iff.1 ha)
  have e : o.map (row S) ++ topL p (q.map (row S)) = topL p S := by
    refine top_unique ?_ ?_
    · rw [List.pairwise_append]
      refine ⟨?_, topL_up _ _, fun a ha c hc => ?_⟩
      · rw [List.pairwise_map]
        refine List.Pairwise.imp_of_mem (fun {a b} ha hb hab => lt_le hS (hm a (by simp [ha])) (hm b (by simp [hb])) hab) h.up
      · obtain ⟨i, hi, rfl⟩ := List.mem_map.1 ha
        obtain ⟨j, hj, rfl⟩ := List.mem_map.1 ((topL_perm p _).mem_iff.1 hc)
        exact lt_le hS (hm i (by simp [hi])) (hm j (by simp [hj])) (h.ahead i hi j hj)
    · have h1 : (o.map (row S) ++ topL p (q.map (row S))).Perm (o.map (row S) ++ q.map (row S)) := List.Perm.append_left _ (topL_perm _ _)
      rw [← List.map_append] at h1
      have h2 := h.perm.map (row S)
      rw [map_row] at h2
      exact h1.trans h2
  rw [← e, List.take_append_of_le_length (by simp), List.take_of_length_le (by simp)]
/- What Top tells. -/
def topR (p n : Nat) (rs : List TN.Rw) : List TN.Rw := TN.sortR ((topL p rs).take n)
theorem topR_sort (p n : Nat) (rs : List TN.Rw) : topR p n (TN.sortR rs) = topR p n rs := by unfold topR; rw [topL_perm_eq (TN.sortR_perm rs)]
end Go.Proofs.Ytcidijjbcebcbaa.RO
namespace Go.Proofs.Ytcidijjbcebcbaa.SS
open Go.RowKit Go.Joins

/- Block B holds n heads: at place i that of tag f i. -/
def Rf (enc : Nat → Value) (B n : Nat) (f : Nat → Nat) (w : World) : Prop := ∃ A : Array Value, w.heap[B]? = some (.cells A 33 (0, 0)) ∧ A.size = n ∧ ∀ i, i < n → A[i]? = some (enc (f i))
theorem Rf.lt {enc : Nat → Value} {B n : Nat} {f : Nat → Nat} {w : World} (h : Rf enc B n f w) : B < w.heap.size := let ⟨_, h1, _⟩ := h; lt_of_block h1
theorem Rf.cell {enc : Nat → Value} {B n : Nat} {f : Nat → Nat} {w : World} (h : Rf enc B n f w) {i : Nat} (hi : i < n) : w.cell? ⟨B, i, none⟩ = some (enc (f i)) := by
  obtain ⟨A, h1, h2, h3⟩ := h
  rw [block_cell h1]; exact h3 i hi
theorem Rf.frozen {enc : Nat → Value} {B n : Nat} {f : Nat → Nat} {w : World} (h : Rf enc B n f w) (i : Nat) : w.frozen? ⟨B, i, none⟩ = false := by
  obtain ⟨A, h1, h2, h3⟩ := h
  exact block_frozen h1 i
theorem Rf.kp {enc : Nat → Value} {B n : Nat} {f : Nat → Nat} {w w' : World} {T : Nat → Prop} (h : Rf enc B n f w) (hk : Kp T w w') (ht : ¬ T B) : Rf enc B n f w' := by
  obtain ⟨A, h1, h2, h3⟩ := h
  exact ⟨A, hk.blk h1 ht, h2, h3⟩
theorem Rf.on {enc : Nat → Value} {B n : Nat} {f : Nat → Nat} {w w' : World} (h : Rf enc B n f w) (hb : Below w.heap.size w w') : Rf enc B n f w' := h.kp (T := fun _ => False) (Kp.of hb) id
theorem Rf.drew {enc : Nat → Value} {B n : Nat} {f : Nat → Nat} {w : World} (h : Rf enc B n f w) : Rf enc B n f w.drew := h.on (Below.refl _ _).drew
theorem Rf.swap {enc : Nat → Value} {B n : Nat} {f : Nat → Nat} {w : World} (h : Rf enc B n f w) {i j : Nat} (hi : i < n) (_ : j < n) : Rf enc B n (sw i j f) ((w.setCell ⟨B, i, none⟩ (enc (f j))).setCell ⟨B, j, none⟩ (enc (f i))) := by
  obtain ⟨A, h1, h2, h3⟩ := h
  refine ⟨_, block_set (block_set h1 i _) j _, by simp [h2], fun k hk => ?_⟩
  rw [Array.getElem?_setIfInBounds, Array.getElem?_setIfInBounds]
  unfold sw
  by_cases e1 : j = k
  · subst e1
    rw [if_pos rfl, if_pos (by simp [h2]; exact hk)]
    by_cases e2 : j = i
    · subst e2; rw [if_pos rfl]
    · rw [if_neg e2, if_pos rfl]
  · rw [if_neg e1]
    by_cases e2 : i = k
    · subst e2
      rw [if_pos rfl, if_pos (by rw [h2]; exact hk), if_pos rfl]
    · rw [if_neg e2, if_neg (fun e => e2 e.symm), if_neg (fun e => e1 e.symm)]
      exact h3 k hk
theorem kp_swap {B : Nat} {w : World} {i j : Nat} {u v : Value} : Kp (fun b => b = B) w ((w.setCell ⟨B, i, none⟩ u).setCell ⟨B, j, none⟩ v) := (Kp.set (T := fun b => b = B) rfl _).trans (Kp.set (T := fun b => b = B) rfl _)
theorem swap_any {enc : Nat → Value} {B n : Nat} {f : Nat → Nat} {w : World} (h : Rf enc B n f w) {i j : Nat} (hi : i < n) (hj : j < n) : Rf enc B n (sw i j f) (((w.setCell ⟨B, i, none⟩ (enc (f j))).setCell ⟨B, j, none⟩ (enc (f i))).drew) ∧ Kp (fun b => b = B) w (((w.setCell ⟨B, i, none⟩ (enc (f j))).setCell ⟨B, j, none⟩ (enc (f i))).drew) := ⟨(h.swap hi hj).drew, kp_swap.trans (Kp.drew _ _)⟩
/- Each head is a slice. -/
def Sls (enc : Nat → Value) : Prop := ∀ x, ∃ p n c, enc x = .slice p n c
set_option maxRecDepth 100000 in
set_option maxHeartbeats 2000000 in
theorem swapRange_any {enc : Nat → Value} (hE : Sls enc) {B n cap a b m : Nat} {f : Nat → Nat} {cv : Value} {w : World} (h : Rf enc B n f w) (hd : a + m ≤ b) (hb : b + m ≤ n) (hn : n ≤ 1000000) : Calls Try.prog 159 #[.slice (some ⟨B, 0, none⟩) n cap, .int .i64 a, .int .i64 b, .int .i64 m, cv] w fun e w' => e = .returned (.tuple #[]) ∧ Rf enc B n (swR a b m f) w' ∧ Kp (fun b => b = B) w w' := by
  have H := hid h
  have HE := hid hE
  clear h hE
  have nI : (n : Int) ≤ 1000000 := by omega
  go_enter Try.func159, Try.ntmps159
  go_wp2
  go_loopw [10] (fun x wr => ∃ i : Nat, i ≤ m ∧ x = .int .i64 i ∧ Hid (Rf enc B n (swR a b i f) wr) ∧ Hid (Kp (fun b => b = B) w wr)) (fun x _ => m - (intOf x).toNat)
  case atStart => exact ⟨0, by omega, rfl, by rw [swR_zero]; exact H.out, Kp.refl _ _⟩
  case round =>
    obtain ⟨i, hi, rfl, HR, HK⟩ := hrel
    by_cases hlt : i < m
    · have hltI : (i : Int) < m := by omega
      obtain ⟨x, hx⟩ : ∃ x, x = a + i := ⟨_, rfl⟩
      obtain ⟨y, hy⟩ : ∃ y, y = b + i := ⟨_, rfl⟩
      have xI : (a : Int) + i = x := by omega
      have yI : (b : Int) + i = y := by omega
      have xn : (x : Int) < n := by omega
      have yn : (y : Int) < n := by omega
      have y0 : (0 : Int) ≤ y := by omega
      have x0 : (0 : Int) ≤ x := by omega
      have cx := HR.out.cell (i := x) (by omega)
      have cy := HR.out.cell (i := y) (by omega)
      have fz := HR.out.frozen
      have HS := hid (swap_any HR.out (i := x) (j := y) (by omega) (by omega))
      obtain ⟨px, nx, kx, ex⟩ := HE.out (swR a b i f x)
      obtain ⟨py, ny, ky, ey⟩ := HE.out (swR a b i f y)
      rw [ex] at cx
      rw [ey] at cy
      rw [ex, ey] at HS
      obtain ⟨u, cy2⟩ : ∃ u, (wr.setCell ⟨B, x, none⟩ (.slice py ny ky)).cell? ⟨B, y, none⟩ = some u := by
        by_cases e : x = y
        · subst e; exact ⟨_, World.cell?_setCell_same _ _ _ cx⟩
        · exact ⟨_, (World.cell?_setCell_other _ _ _ _ (by intro e'; simp only [Addr.mk.injEq] at e'; omega)).trans cy⟩
      have HX := hid hx
      have HY := hid hy
      clear hx hy ex ey
      go_wp2_with fail
      go_region
      all_goals
        go_wp2_with fail
        go_roundw
        case rel =>
          have e1 : sw x y (swR a b i f) = swR a b (i + 1) f := by rw [HX.out, HY.out]; exact swR_succ f (n := m) hd hlt
          refine ⟨i + 1, by omega, by go_num, ?_, HK.out.trans HS.out.2⟩
          show Rf _ _ _ _ _
          rw [← e1]; exact HS.out.1
        case measure => simp [intOf]; omega
    · obtain rfl : i = m := by omega
      go_wp2
      go_end0
      exact ⟨rfl, HR.out, HK.out⟩
end Go.Proofs.Ytcidijjbcebcbaa.SS
namespace Go.Proofs.Ytcidijjbcebcbaa.SS
open Go.RowKit Go.Joins

set_option maxRecDepth 100000 in
set_option maxHeartbeats 2000000 in
theorem rotate_any {enc : Nat → Value} (hE : Sls enc) {B n cap a m b : Nat} {f : Nat → Nat} {cv : Value} {w : World} (h : Rf enc B n f w) (ham : a < m) (hmb : m < b) (hb : b ≤ n) (hn : n ≤ 1000000) : Calls Try.prog 139 #[.slice (some ⟨B, 0, none⟩) n cap, .int .i64 a, .int .i64 m, .int .i64 b, cv] w fun e w' => e = .returned (.tuple #[]) ∧ Rf enc B n (rot a m b f) w' ∧ Kp (fun b => b = B) w w' := by
  have H := hid h
  have HE := hid hE
  clear h hE
  have nI : (n : Int) ≤ 1000000 := by omega
  have i0 : (m : Int) - a = ((m - a : Nat) : Int) := by omega
  have j0 : (b : Int) - m = ((b - m : Nat) : Int) := by omega
  obtain ⟨ia, hia⟩ : ∃ i, i = m - a := ⟨_, rfl⟩
  obtain ⟨jb, hjb⟩ : ∃ i, i = b - m := ⟨_, rfl⟩
  rw [← hia] at i0
  rw [← hjb] at j0
  have HI := hid hia
  have HJ := hid hjb
  have h1 : 0 < ia := by omega
  have h2 : 0 < jb := by omega
  clear hia hjb
  go_enter Try.func139, Try.ntmps139
  go_wp2
  go_loopw [10, 11] (fun x y wr => ∃ i j : Nat, x = .int .i64 i ∧ y = .int .i64 j ∧ 0 < i ∧ 0 < j ∧ i ≤ m ∧ m + j ≤ n ∧ Hid (∃ g, Rf enc B n g wr ∧ rot (m - i) m (m + j) g = rot a m b f) ∧ Hid (Kp (fun b => b = B) w wr)) (fun x y _ => (intOf x).toNat + (intOf y).toNat)
  case atStart => exact ⟨ia, jb, rfl, rfl, h1, h2, by have := HI.out; omega, by have := HJ.out; omega, ⟨f, H.out, by rw [HI.out, HJ.out, show m - (m - a) = a by omega, show m + (b - m) = b by omega]⟩, Kp.refl _ _⟩
  case round =>
    obtain ⟨i, j, rfl, rfl, hi, hj, him, hjn, HG, HK⟩ := hrel
    obtain ⟨g, hg, hr⟩ := HG.out
    have HR := hid hg
    have HQ := hid hr
    clear hg hr HG H
    have mi : (m : Int) - i = ((m - i : Nat) : Int) := by omega
    obtain ⟨mi', hmi⟩ : ∃ x, x = m - i := ⟨_, rfl⟩
    rw [← hmi] at mi
    have HM := hid hmi
    clear hmi
    rcases Nat.lt_trichotomy i j with hlt | heq | hgt
    · have c1 : (((i : Int) != (j : Int))) = true := by simp; omega
      have c2 : ¬ (j : Int) < i := by omega
      have c3 : (m : Int) + j - i = ((m + j - i : Nat) : Int) := by omega
      obtain ⟨mj, hmj⟩ : ∃ x, x = m + j - i := ⟨_, rfl⟩
      rw [← hmj] at c3
      have HMJ := hid hmj
      clear hmj
      have c4 : (m : Int) + j ≤ 1000000 := by omega
      have HS := hid (swapRange_any HE.out (cap := cap) (a := mi') (b := mj) (m := i) (cv := cv) HR.out (by have := HM.out; have := HMJ.out; omega) (by have := HMJ.out; omega) hn)
      have jI : (j : Int) - i = ((j - i : Nat) : Int) := by omega
      obtain ⟨ji, hji⟩ : ∃ x, x = j - i := ⟨_, rfl⟩
      rw [← hji] at jI
      have HJI := hid hji
      clear hji
      go_wp2_with (first
        | (go_at_call 159; refine HS.out.mono ?_; rintro e w2 ⟨rfl, h2, h3⟩; have HR2 := hid h2; have HK2 := hid h3; clear h2 h3))
      go_roundw
      case rel =>
        have e1 := rot_right (m := m) (i := i) (j := j) g hlt him
        rw [← HM.out, ← HMJ.out, ← HJI.out] at e1
        exact ⟨i, ji, rfl, by go_num, hi, by have := HJI.out; omega, him, by have := HJI.out; omega, ⟨_, HR2.out, by rw [← HM.out, e1, HM.out]; exact HQ.out⟩, HK.out.trans HK2.out⟩
      case measure => have := HJI.out; simp [intOf]; omega
    · subst heq
      have c1 : (((i : Int) != (i : Int))) = false := by simp
      have HS := hid (swapRange_any HE.out (cap := cap) (a := mi') (b := m) (m := i) (cv := cv) HR.out (by have := HM.out; omega) (by omega) hn)
      go_wp2_with (first
        | (go_at_call 159; refine HS.out.mono ?_; rintro e w2 ⟨rfl, h2, h3⟩; have HR2 := hid h2; have HK2 := hid h3; clear h2 h3))
      go_end0
      refine ⟨rfl, ?_, HK.out.trans HK2.out⟩
      rw [← HQ.out, ← rot_same g him, ← HM.out]; exact HR2.out
    · have c1 : (((i : Int) != (j : Int))) = true := by simp; omega
      have c2 : (j : Int) < i := by omega
      have HS := hid (swapRange_any HE.out (cap := cap) (a := mi') (b := m) (m := j) (cv := cv) HR.out (by have := HM.out; omega) (by omega) hn)
      have jI : (i : Int) - j = ((i - j : Nat) : Int) := by omega
      obtain ⟨ji, hji⟩ : ∃ x, x = i - j := ⟨_, rfl⟩
      rw [← hji] at jI
      have HJI := hid hji
      clear hji
      go_wp2_with (first
        | (go_at_call 159; refine HS.out.mono ?_; rintro e w2 ⟨rfl, h2, h3⟩; have HR2 := hid h2; have HK2 := hid h3; clear h2 h3))
      go_roundw
      case rel =>
        have e1 := rot_left (m := m) (i := i) (j := j) g hgt him
        rw [← HM.out] at e1
        exact ⟨ji, j, by go_num, rfl, by have := HJI.out; omega, hj, by have := HJI.out; omega, hjn, ⟨_, HR2.out, by rw [HJI.out, show m - (i - j) = mi' + j by have := HM.out; omega, e1, HM.out]; exact HQ.out⟩, HK.out.trans HK2.out⟩
      case measure => have := HJI.out; simp [intOf]; omega
end Go.Proofs.Ytcidijjbcebcbaa.SS
