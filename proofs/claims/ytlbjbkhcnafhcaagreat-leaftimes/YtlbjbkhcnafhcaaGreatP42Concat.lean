/-
  What Go's slices.Concat returns of two slices of rows.
  What table.Union returns, for every two tables (at most 4096 rows together).
  What is told of some time is what is told of its two parts; how many points there are of each schema.
  Two rows of rows in canonical order, merged: the canonical order of both.
-/
import Derived.Test.YtlbjbkhcnafhcaaGreatP23Places
import Derived.Test.YtlbjbkhcnafhcaaGreatQCanon
import Derived.Test.YtlbjbkhcnafhcaaGreatP24Same
import Derived.Test.YtlbjbkhcnafhcaaGreatQLRoom
import Derived.Test.YtlbjbkhcnafhcaaGreatP11Txt
import Derived.Shelf.Spec.SlicesGrow
namespace Go.Proofs
open Go.Shelf
end Go.Proofs
namespace Go.Proofs.YtlbjbkhcnafhcaaGreat
open Go.RowKit Go.Sort Go.Shelf

theorem heads_one {Q : Nat → Prop} {w : World} {hs : List Value} {rs : List Rw} (h : HeadsIn Q w hs rs) : ∀ y ∈ hs, ∀ c ∈ one y, c.oneCell' = true := by
  intro y hy c hc
  simp [one] at hc
  subst hc
  obtain ⟨i, hi⟩ := List.getElem?_of_mem hy
  have hl : i < hs.length := (List.getElem?_eq_some_iff.1 hi).1
  have hl' : i < rs.length := by rw [← h.1]; exact hl
  exact slice_one (h.2 i c _ hi (List.getElem?_eq_getElem hl'))
theorem heads_append {Q : Nat → Prop} {w : World} {hs ks : List Value} {rs qs : List Rw} (h : HeadsIn Q w hs rs) (k : HeadsIn Q w ks qs) : HeadsIn Q w (hs ++ ks) (rs ++ qs) := by
  refine ⟨by simp [h.1, k.1], fun j x r hx hr => ?_⟩
  by_cases hj : j < hs.length
  · rw [List.getElem?_append_left hj] at hx
    rw [List.getElem?_append_left (by rw [← h.1]; exact hj)] at hr
    exact h.2 j x r hx hr
  · rw [List.getElem?_append_right (by omega)] at hx
    rw [List.getElem?_append_right (by rw [← h.1]; omega), ← h.1] at hr
    exact k.2 _ x r hx hr
end Go.Proofs.YtlbjbkhcnafhcaaGreat
namespace Go.Proofs.YtlbjbkhcnafhcaaGreat
open Go.RowKit Go.Sort Go.Shelf

def unionE (cs : List Cl) (rs : List Rw) (ds : List Cl) (qs : List Rw) : Int := if checkV cs rs = 0 then (if checkV ds qs = 0 then (if cs = ds then 0 else 20) else checkV ds qs) else checkV cs rs
def unionC (cs : List Cl) (rs : List Rw) (ds : List Cl) (qs : List Rw) : List Cl := if unionE cs rs ds qs = 0 then cs else []
def unionR (cs : List Cl) (rs : List Rw) (ds : List Cl) (qs : List Rw) : List Rw := if unionE cs rs ds qs = 0 then sortR (rs ++ qs) else []
theorem tab_nil' (Q : Nat → Prop) (w : World) : TabIn Q w (.agg #[.slice none 0 0, .slice none 0 0]) [] [] := ⟨_, _, rfl, SlAt.nil _ _ _ _, [], SlAt.nil _ _ _ _, ⟨rfl, fun j h r h1 _ => by simp at h1⟩⟩
end Go.Proofs.YtlbjbkhcnafhcaaGreat
namespace Go.Proofs.YtlbjbkhcnafhcaaGreat
open Go.RowKit Go.Sort Go.Shelf Go.Maps

theorem cols_ok {s : Sc} (hs : mayB s = true) : colsB (colsS s) = true := by
  rw [← one_may] at hs
  simp only [oneB, Bool.and_eq_true, decide_eq_true_eq, colsB_iff, List.all_eq_true] at hs
  rw [colsB_iff]
  obtain ⟨⟨_, h2, h3⟩, h4, _, _, h7, h8⟩ := hs
  refine ⟨by simp [colsS]; omega, ?_, ?_⟩
  · intro c hc
    rcases List.mem_cons.1 hc with rfl | hc
    · exact ⟨by decide, by decide, by decide⟩
    · exact h7 c hc
  · rw [colsS, List.map_cons, List.nodup_cons]
    refine ⟨fun hm => ?_, h8⟩
    obtain ⟨c, hc, e⟩ := List.mem_map.1 hm
    exact word_time (h4 c hc) e.symm
theorem fit_vT (n : Int) : fitB 1 (vT n) = true := by simp [fitB, validL, vT, validB, zeroH, eqH, noText]
theorem scan_rows {S : List Sc} {pts : List Pt} (hc : checkS S = 0) (hf : ∀ q ∈ pts, fitsS S q = 0) {j : Nat} {s : Sc} (hs : S[j]? = some s) (a z : Int) : checkV (colsS s) (sortR (scanR pts s.nm a z)) = 0 := by
  have hj := (List.getElem?_eq_some_iff.1 hs).1
  have hsm : s ∈ S := List.mem_of_getElem? hs
  unfold checkV
  rw [if_pos (cols_ok ((check_parts0 hc).2.1 s hsm)), if_pos]
  rw [List.all_eq_true]
  intro r hr
  have hr' := (sortR_perm _).mem_iff.1 hr
  unfold scanR at hr'
  obtain ⟨p, hp, rfl⟩ := List.mem_map.1 hr'
  obtain ⟨hp1, hp2⟩ := List.mem_filter.1 hp
  simp only [ofP, decide_eq_true_eq] at hp2
  obtain ⟨i, s', hs', hat, hn, _, hfp⟩ := fit_at hc (hf p hp1)
  have e : s' = s := by
    have h1 := atS_get (check_parts0 hc).2.2 hj
    rw [List.getElem?_eq_getElem hj] at hs
    rw [Option.some.inj hs, ← hp2.1, hat] at h1
    have hij : i = j := by omega
    subst hij
    rw [List.getElem?_eq_getElem hj] at hs'
    exact (Option.some.inj hs').symm.trans (Option.some.inj hs)
  subst e
  simp only [fitP, Bool.and_eq_true] at hfp
  exact row_cons (fit_vT _) (row_append hfp.1 hfp.2.1)
theorem filter_split {α : Type} (f g h : α → Bool) : ∀ (l : List α), (∀ x ∈ l, h x = (f x || g x) ∧ (f x && g x) = false) → (l.filter f ++ l.filter g).Perm (l.filter h)
  | [], _ => List.Perm.refl _
  | x :: l, hx => by
    have ih := filter_split f g h l (fun y hy => hx y (by simp [hy]))
    obtain ⟨h1, h2⟩ := hx x (by simp)
    simp only [List.filter_cons]
    cases hf : f x <;> cases hg : g x <;> rw [hf, hg] at h1 h2 <;> simp at h1 h2 <;> rw [h1]
    · simpa using ih
    · simp only [if_true, Bool.false_eq_true, if_false]
      exact List.perm_middle.trans (ih.cons _)
    · simp only [if_true, Bool.false_eq_true, if_false, List.cons_append]
      exact ih.cons _
theorem scan_cut (pts : List Pt) (nm : ByteArray) {a m z : Int} (h1 : a ≤ m) (h2 : m < z) : (scanR pts nm a m ++ scanR pts nm (m + 1) z).Perm (scanR pts nm a z) := by
  unfold scanR
  rw [← List.map_append]
  refine (filter_split _ _ _ pts fun p _ => ?_).map _
  simp only [ofP]
  constructor
  · rw [Bool.eq_iff_iff]
    simp only [Bool.or_eq_true, decide_eq_true_eq]
    constructor
    · rintro ⟨e, h3, h4⟩
      by_cases c : p.tm ≤ m
      · exact .inl ⟨e, h3, c⟩
      · exact .inr ⟨e, by omega, h4⟩
    · rintro (⟨e, h3, h4⟩ | ⟨e, h3, h4⟩)
      · exact ⟨e, h3, by omega⟩
      · exact ⟨e, by omega, h4⟩
  · rw [Bool.and_eq_false_iff]
    simp only [decide_eq_false_iff_not]
    by_cases c : p.tm ≤ m
    · right; omega
    · left; omega
theorem union_cut {S : List Sc} {pts : List Pt} (hc : checkS S = 0) (hf : ∀ q ∈ pts, fitsS S q = 0) {j : Nat} {s : Sc} (hs : S[j]? = some s) {a m z : Int} (h1 : a ≤ m) (h2 : m < z) :
    unionE (colsS s) (sortR (scanR pts s.nm a m)) (colsS s) (sortR (scanR pts s.nm (m + 1) z)) = 0 ∧ unionC (colsS s) (sortR (scanR pts s.nm a m)) (colsS s) (sortR (scanR pts s.nm (m + 1) z)) = colsS s ∧ unionR (colsS s) (sortR (scanR pts s.nm a m)) (colsS s) (sortR (scanR pts s.nm (m + 1) z)) = sortR (scanR pts s.nm a z) := by
  have hE : unionE (colsS s) (sortR (scanR pts s.nm a m)) (colsS s) (sortR (scanR pts s.nm (m + 1) z)) = 0 := by
    unfold unionE
    rw [if_pos (scan_rows hc hf hs a m), if_pos (scan_rows hc hf hs (m + 1) z), if_pos rfl]
  refine ⟨hE, by unfold unionC; rw [if_pos hE], ?_⟩
  unfold unionR
  rw [if_pos hE]
  exact sortR_perm_eq (((sortR_perm _).append (sortR_perm _)).trans (scan_cut pts s.nm h1 h2))
theorem sc_at {S : List Sc} (hc : checkS S = 0) {j : Nat} {s : Sc} (hs : S[j]? = some s) : atS S s.nm = (j : Int) ∧ scE S s.nm = 0 ∧ scC S s.nm = colsS s ∧ ∀ pts a z, scR S pts s.nm a z = sortR (scanR pts s.nm a z) := by
  have hj := (List.getElem?_eq_some_iff.1 hs).1
  have h1 := atS_get (check_parts0 hc).2.2 hj
  rw [List.getElem?_eq_getElem hj] at hs
  rw [Option.some.inj hs] at h1
  have hn : ¬ atS S s.nm < 0 := by omega
  refine ⟨h1, if_neg hn, ?_, fun pts a z => if_neg hn⟩
  unfold scC
  rw [if_neg hn, h1, Int.toNat_natCast, getElem!_pos S j hj, Option.some.inj hs]
def cntN (pts : List Pt) (ns : List ByteArray) : Nat := (pts.filter (fun p : Pt => ns.any fun n => decide (p.sc = n))).length
theorem cnt_nil (pts : List Pt) : cntN pts [] = 0 := by simp [cntN]
theorem cnt_snoc {pts : List Pt} {ns : List ByteArray} {nm : ByteArray} (hn : nm ∉ ns) (ht : ∀ p ∈ pts, 0 ≤ p.tm ∧ p.tm < 1099511627776) : cntN pts (ns ++ [nm]) = cntN pts ns + (scanR pts nm (-9223372036854775808) 9223372036854775807).length := by
  unfold cntN scanR
  rw [List.length_map, ← List.length_append]
  refine (List.Perm.length_eq (filter_split _ _ _ pts fun p hp => ?_)).symm
  have h1 := ht p hp
  have e : ofP nm (-9223372036854775808) 9223372036854775807 p = decide (p.sc = nm) := by
    unfold ofP
    congr 1
    apply propext
    exact ⟨fun h => h.1, fun h => ⟨h, by omega, by omega⟩⟩
  rw [e]
  constructor
  · rw [List.any_append]; simp
  · rw [Bool.and_eq_false_iff]
    by_cases c : p.sc = nm
    · left
      rw [List.any_eq_false]
      intro n hn' h
      rw [decide_eq_true_eq] at h
      exact hn (by rw [← c, h]; exact hn')
    · right; exact decide_eq_false c
theorem cnt_all {S : List Sc} {pts : List Pt} (hc : checkS S = 0) (hf : ∀ q ∈ pts, fitsS S q = 0) : cntN pts (S.map Sc.nm) = pts.length := by
  unfold cntN
  rw [List.filter_eq_self.2]
  intro p hp
  obtain ⟨j, s, hs, _, hn, _, _⟩ := fit_at hc (hf p hp)
  rw [List.any_eq_true]
  exact ⟨s.nm, List.mem_map.2 ⟨s, List.mem_of_getElem? hs, rfl⟩, decide_eq_true hn.symm⟩
theorem fit_tm {S : List Sc} {pts : List Pt} (hc : checkS S = 0) (hf : ∀ q ∈ pts, fitsS S q = 0) : ∀ p ∈ pts, 0 ≤ p.tm ∧ p.tm < 1099511627776 := fun p hp => let ⟨_, _, _, _, h1, h2⟩ := fit_facts hc (hf p hp); ⟨h1, h2⟩
theorem scan_le (pts : List Pt) (nm : ByteArray) (a z : Int) : (sortR (scanR pts nm a z)).length ≤ pts.length := by
  rw [sortR_length]
  unfold scanR
  rw [List.length_map]
  exact List.length_filter_le _ _
theorem cnt_le (pts : List Pt) (ns : List ByteArray) : cntN pts ns ≤ pts.length := List.length_filter_le _ _
theorem names_take {S : List Sc} {k : Nat} {s : Sc} (hs : S[k]? = some s) : (S.take (k + 1)).map Sc.nm = (S.take k).map Sc.nm ++ [s.nm] := by rw [List.take_add_one, hs]; simp
theorem name_new {S : List Sc} (hc : checkS S = 0) {k : Nat} {s : Sc} (hs : S[k]? = some s) : s.nm ∉ (S.take k).map Sc.nm := by
  have hk := (List.getElem?_eq_some_iff.1 hs).1
  have hn := (check_parts0 hc).2.2
  have e : S.map Sc.nm = (S.take (k + 1)).map Sc.nm ++ (S.drop (k + 1)).map Sc.nm := by rw [← List.map_append, List.take_append_drop]
  rw [e, names_take hs] at hn
  have h1 := (List.nodup_append.1 hn).1
  have h2 := (List.nodup_append.1 h1).2.2
  intro hm
  exact h2 _ hm _ (by simp) rfl
theorem schs_take {w : World} {p : Option Addr} {n cap m : Nat} {S : List Sc} (h : SchsAt w (.slice p n cap) S) (hm : m ≤ n) : SchsAt w (.slice p m cap) (S.take m) := by
  obtain ⟨hs, ⟨p', cap', hv, hc, hmx, hx⟩, hh⟩ := h
  cases hv
  refine ⟨hs.take m, ⟨p, cap, by rw [List.length_take, Nat.min_eq_left hm], ⟨by rw [List.length_take]; omega, hc.2⟩, by rw [List.length_take]; omega, fun hne => ?_⟩, hh.take m⟩
  obtain ⟨b, o, hp, hQ, hj⟩ := hx (by intro e; rw [e] at hne; simp at hne)
  refine ⟨b, o, hp, ⟨hQ.1, Nat.le_trans (Nat.mul_le_mul_right _ (by rw [List.length_take]; omega)) hQ.2⟩, fun j x hjx => hj j x ?_⟩
  rw [List.getElem?_take] at hjx
  split at hjx
  · exact hjx
  · cases hjx
theorem check_long {S : List Sc} (h : 8 < S.length) : checkS S = 50 := by
  rcases check_two S with h0 | h0
  · have := (check_parts0 h0).1; omega
  · exact h0
end Go.Proofs.YtlbjbkhcnafhcaaGreat
namespace Go.Proofs.YtlbjbkhcnafhcaaGreat
open Go.RowKit Go.Sort Go.Shelf

def leR (x y : Rw) : Bool := decide (cmpR x y ≤ 0)
def mergeR (a b : List Rw) : List Rw := List.merge a b leR
theorem mergeR_left {a b : List Rw} {i k : Nat} (hi : i < a.length) (hk : b.length ≤ k) : mergeR (a.drop i) (b.drop k) = a[i]! :: mergeR (a.drop (i + 1)) (b.drop k) := by
  have e1 : a[i]! = a[i] := by rw [List.getElem!_eq_getElem?_getD, List.getElem?_eq_getElem hi]; rfl
  rw [List.drop_eq_nil_of_le hk, List.drop_eq_getElem_cons hi, e1]
  unfold mergeR
  rw [List.merge_right, List.merge_right]
theorem mergeR_right {a b : List Rw} {i k : Nat} (hi : a.length ≤ i) (hk : k < b.length) : mergeR (a.drop i) (b.drop k) = b[k]! :: mergeR (a.drop i) (b.drop (k + 1)) := by
  have e1 : b[k]! = b[k] := by rw [List.getElem!_eq_getElem?_getD, List.getElem?_eq_getElem hk]; rfl
  rw [List.drop_eq_nil_of_le hi, List.drop_eq_getElem_cons hk, e1]
  unfold mergeR
  rw [List.nil_merge, List.nil_merge]
theorem mergeR_le {a b : List Rw} {i k : Nat} (hi : i < a.length) (hk : k < b.length) (h : cmpR a[i]! b[k]! ≤ 0) : mergeR (a.drop i) (b.drop k) = a[i]! :: mergeR (a.drop (i + 1)) (b.drop k) := by
  have e1 : a[i]! = a[i] := by rw [List.getElem!_eq_getElem?_getD, List.getElem?_eq_getElem hi]; rfl
  have e2 : b[k]! = b[k] := by rw [List.getElem!_eq_getElem?_getD, List.getElem?_eq_getElem hk]; rfl
  rw [e1, e2] at h
  rw [List.drop_eq_getElem_cons hi, List.drop_eq_getElem_cons hk, e1]
  unfold mergeR
  rw [List.cons_merge_cons, if_pos (by unfold leR; exact decide_eq_true h)]
theorem mergeR_gt {a b : List Rw} {i k : Nat} (hi : i < a.length) (hk : k < b.length) (h : ¬ cmpR a[i]! b[k]! ≤ 0) : mergeR (a.drop i) (b.drop k) = b[k]! :: mergeR (a.drop i) (b.drop (k + 1)) := by
  have e1 : a[i]! = a[i] := by rw [List.getElem!_eq_getElem?_getD, List.getElem?_eq_getElem hi]; rfl
  have e2 : b[k]! = b[k] := by rw [List.getElem!_eq_getElem?_getD, List.getElem?_eq_getElem hk]; rfl
  rw [e1, e2] at h
  rw [List.drop_eq_getElem_cons hi, List.drop_eq_getElem_cons hk, e2]
  unfold mergeR
  rw [List.cons_merge_cons, if_neg (by unfold leR; simpa using h)]
theorem mergeR_sort (a b : List Rw) : mergeR (sortR a) (sortR b) = sortR (a ++ b) := by
  refine sortR_of ?_ ?_
  · have := List.pairwise_merge (le := leR) (fun x y z h1 h2 => by unfold leR at *; simp at *; exact cmpR_trans h1 h2) (fun x y => by have := neg_cmpR x y; unfold leR; simp; omega) (sortR a) (sortR b) ((sortR_up a).imp fun h => by unfold leR; simpa using h) ((sortR_up b).imp fun h => by unfold leR; simpa using h)
    exact this.imp fun h => by unfold leR at h; simpa using h
  · exact (List.merge_perm_append (le := leR)).trans ((sortR_perm a).append (sortR_perm b))
theorem sortR_short {a : List Rw} (h : a.length < 2) : sortR a = a := by
  refine (sortR_of ?_ (List.Perm.refl a)).symm
  match a, h with
  | [], _ => exact List.Pairwise.nil
  | [x], _ => exact List.pairwise_singleton _ _
theorem SlAt.drop {α : Type} {Q : Nat → Prop} {enc : α → List Value} {k : Nat} {w : World} {p : Option Addr} {n cap : Nat} {xs : List α} (h : SlAt Q enc k w (.slice p n cap) xs) (hk1 : k = 1) (m : Nat) (hm : m ≤ n) : SlAt Q enc k w (.slice (if cap = m then p else Option.map (fun x => x.add m) p) (n - m) (cap - m)) (xs.drop m) := by
  subst hk1
  obtain ⟨p', cap', hv, ⟨hc, hno⟩, hmx, hx⟩ := h
  cases hv
  have hl : (xs.drop m).length = xs.length - m := by simp
  refine ⟨_, _, by rw [hl], ⟨by omega, ?_⟩, by omega, fun hne => ?_⟩
  · intro e
    split at e
    · omega
    · cases p with
      | none => have := hno rfl; omega
      | some a => cases e
  · have hlt : m < xs.length := by
      rcases Nat.lt_or_ge m xs.length with h | h
      · exact h
      · exact absurd (List.drop_eq_nil_of_le h) hne
    obtain ⟨b, o, rfl, hQ, hj⟩ := hx (by intro e; subst e; simp at hlt)
    rw [if_neg (by omega)]
    refine ⟨b, o + m, by simp [Addr.add_lit], ⟨hQ.1, Nat.le_trans (Nat.mul_le_mul_right _ (by omega)) hQ.2⟩, fun j x hjx => ?_⟩
    have := hj (m + j) x (by rw [List.getElem?_drop] at hjx; exact hjx)
    have e : o + (m + j) * 1 = o + m + j * 1 := by omega
    rwa [e] at this
theorem HeadsIn.drop {Q : Nat → Prop} {w : World} {hs : List Value} {rs : List Rw} (h : HeadsIn Q w hs rs) (m : Nat) : HeadsIn Q w (hs.drop m) (rs.drop m) := by
  refine ⟨by rw [List.length_drop, List.length_drop, h.1], fun j x r h1 h2 => ?_⟩
  rw [List.getElem?_drop] at h1 h2
  exact h.2 _ x r h1 h2
end Go.Proofs.YtlbjbkhcnafhcaaGreat
