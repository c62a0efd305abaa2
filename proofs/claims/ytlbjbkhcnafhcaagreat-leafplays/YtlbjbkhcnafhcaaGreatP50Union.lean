/-
  What table.Union returns, for every two tables (at most 4096 rows together).
  What is told of some time is what is told of its two parts; how many points there are of each schema.
  What table.Keep returns, for every table and all names (at most 4096).
  The document's examples as plain data: what each of them comes to.
  What the statements' own shown (the document's examples) returns.
  The walk of catchmentlaw02.TableChecks.
-/
import Derived.Test.YtlbjbkhcnafhcaaGreatP44TScan
import Derived.Test.YtlbjbkhcnafhcaaGreatQCanon
import Derived.Test.YtlbjbkhcnafhcaaGreatP21STwice
import Derived.Test.YtlbjbkhcnafhcaaGreatQLRoom
import Derived.Test.YtlbjbkhcnafhcaaGreatP20ShelfSort
import Derived.Test.YtlbjbkhcnafhcaaGreatQSmall
namespace Go.Proofs.YtlbjbkhcnafhcaaGreat
open Go.RowKit Go.Sort Go.Shelf

def unionE (cs : List Cl) (rs : List Rw) (ds : List Cl) (qs : List Rw) : Int := if checkV cs rs = 0 then (if checkV ds qs = 0 then (if cs = ds then 0 else 20) else checkV ds qs) else checkV cs rs
def unionC (cs : List Cl) (rs : List Rw) (ds : List Cl) (qs : List Rw) : List Cl := if unionE cs rs ds qs = 0 then cs else []
def unionR (cs : List Cl) (rs : List Rw) (ds : List Cl) (qs : List Rw) : List Rw := if unionE cs rs ds qs = 0 then sortR (rs ++ qs) else []
theorem tab_nil' (Q : Nat → Prop) (w : World) : TabIn Q w (.agg #[.slice none 0 0, .slice none 0 0]) [] [] := ⟨_, _, rfl, SlAt.nil _ _ _ _, [], SlAt.nil _ _ _ _, ⟨rfl, fun j h r h1 _ => by simp at h1⟩⟩
end Go.Proofs.YtlbjbkhcnafhcaaGreat
namespace Go.Proofs.YtlbjbkhcnafhcaaGreat
open Go.RowKit Go.Sort Go.Shelf Go.Maps

theorem cols_ok {s : Sc} (hs : mayB s = true) : colsB (colsS s) = true := by
  rw [← one_may] at hs
  simp only [oneB, Bool.and_eq_true, decide_eq_true_eq, colsB_iff, List.all_eq_true] at hs
  rw [colsB_iff]
  obtain ⟨⟨_, h2, h3⟩, h4, _, _, h7, h8⟩ := hs
  refine ⟨by simp [colsS]; omega, ?_, ?_⟩
  · intro c hc
    rcases List.mem_cons.1 hc with rfl | hc
    · exact ⟨by decide, by decide, by decide⟩
    · exact h7 c hc
  · rw [colsS, List.map_cons, List.nodup_cons]
    refine ⟨fun hm => ?_, h8⟩
    obtain ⟨c, hc, e⟩ := List.mem_map.1 hm
    exact word_time (h4 c hc) e.symm
theorem fit_vT (n : Int) : fitB 1 (vT n) = true := by simp [fitB, validL, vT, validB, zeroH, eqH, noText]
theorem scan_rows {S : List Sc} {pts : List Pt} (hc : checkS S = 0) (hf : ∀ q ∈ pts, fitsS S q = 0) {j : Nat} {s : Sc} (hs : S[j]? = some s) (a z : Int) : checkV (colsS s) (sortR (scanR pts s.nm a z)) = 0 := by
  have hj := (List.getElem?_eq_some_iff.1 hs).1
  have hsm : s ∈ S := List.mem_of_getElem? hs
  unfold checkV
  rw [if_pos (cols_ok ((check_parts0 hc).2.1 s hsm)), if_pos]
  rw [List.all_eq_true]
  intro r hr
  have hr' := (sortR_perm _).mem_iff.1 hr
  unfold scanR at hr'
  obtain ⟨p, hp, rfl⟩ := List.mem_map.1 hr'
  obtain ⟨hp1, hp2⟩ := List.mem_filter.1 hp
  simp only [ofP, decide_eq_true_eq] at hp2
  obtain ⟨i, s', hs', hat, hn, _, hfp⟩ := fit_at hc (hf p hp1)
  have e : s' = s := by
    have h1 := atS_get (check_parts0 hc).2.2 hj
    rw [List.getElem?_eq_getElem hj] at hs
    rw [Option.some.inj hs, ← hp2.1, hat] at h1
    have hij : i = j := by omega
    subst hij
    rw [List.getElem?_eq_getElem hj] at hs'
    exact (Option.some.inj hs').symm.trans (Option.some.inj hs)
  subst e
  simp only [fitP, Bool.and_eq_true] at hfp
  exact row_cons (fit_vT _) (row_append hfp.1 hfp.2.1)
theorem filter_split {α : Type} (f g h : α → Bool) : ∀ (l : List α), (∀ x ∈ l, h x = (f x || g x) ∧ (f x && g x) = false) → (l.filter f ++ l.filter g).Perm (l.filter h)
  | [], _ => List.Perm.refl _
  | x :: l, hx => by
    have ih := filter_split f g h l (fun y hy => hx y (by simp [hy]))
    obtain ⟨h1, h2⟩ := hx x (by simp)
    simp only [List.filter_cons]
    cases hf : f x <;> cases hg : g x <;> rw [hf, hg] at h1 h2 <;> simp at h1 h2 <;> rw [h1]
    · simpa using ih
    · simp only [if_true, Bool.false_eq_true, if_false]
      exact List.perm_middle.trans (ih.cons _)
    · simp only [if_true, Bool.false_eq_true, if_false, List.cons_append]
      exact ih.cons _
theorem scan_cut (pts : List Pt) (nm : ByteArray) {a m z : Int} (h1 : a ≤ m) (h2 : m < z) : (scanR pts nm a m ++ scanR pts nm (m + 1) z).Perm (scanR pts nm a z) := by
  unfold scanR
  rw [← List.map_append]
  refine (filter_split _ _ _ pts fun p _ => ?_).map _
  simp only [ofP]
  constructor
  · rw [Bool.eq_iff_iff]
    simp only [Bool.or_eq_true, decide_eq_true_eq]
    constructor
    · rintro ⟨e, h3, h4⟩
      by_cases c : p.tm ≤ m
      · exact .inl ⟨e, h3, c⟩
      · exact .inr ⟨e, by omega, h4⟩
    · rintro (⟨e, h3, h4⟩ | ⟨e, h3, h4⟩)
      · exact ⟨e, h3, by omega⟩
      · exact ⟨e, by omega, h4⟩
  · rw [Bool.and_eq_false_iff]
    simp only [decide_eq_false_iff_not]
    by_cases c : p.tm ≤ m
    · right; omega
    · left; omega
theorem union_cut {S : List Sc} {pts : List Pt} (hc : checkS S = 0) (hf : ∀ q ∈ pts, fitsS S q = 0) {j : Nat} {s : Sc} (hs : S[j]? = some s) {a m z : Int} (h1 : a ≤ m) (h2 : m < z) :
    unionE (colsS s) (sortR (scanR pts s.nm a m)) (colsS s) (sortR (scanR pts s.nm (m + 1) z)) = 0 ∧ unionC (colsS s) (sortR (scanR pts s.nm a m)) (colsS s) (sortR (scanR pts s.nm (m + 1) z)) = colsS s ∧ unionR (colsS s) (sortR (scanR pts s.nm a m)) (colsS s) (sortR (scanR pts s.nm (m + 1) z)) = sortR (scanR pts s.nm a z) := by
  have hE : unionE (colsS s) (sortR (scanR pts s.nm a m)) (colsS s) (sortR (scanR pts s.nm (m + 1) z)) = 0 := by
    unfold unionE
    rw [if_pos (scan_rows hc hf hs a m), if_pos (scan_rows hc hf hs (m + 1) z), if_pos rfl]
  refine ⟨hE, by unfold unionC; rw [if_pos hE], ?_⟩
  unfold unionR
  rw [if_pos hE]
  exact sortR_perm_eq (((sortR_perm _).append (sortR_perm _)).trans (scan_cut pts s.nm h1 h2))
theorem sc_at {S : List Sc} (hc : checkS S = 0) {j : Nat} {s : Sc} (hs : S[j]? = some s) : atS S s.nm = (j : Int) ∧ scE S s.nm = 0 ∧ scC S s.nm = colsS s ∧ ∀ pts a z, scR S pts s.nm a z = sortR (scanR pts s.nm a z) := by
  have hj := (List.getElem?_eq_some_iff.1 hs).1
  have h1 := atS_get (check_parts0 hc).2.2 hj
  rw [List.getElem?_eq_getElem hj] at hs
  rw [Option.some.inj hs] at h1
  have hn : ¬ atS S s.nm < 0 := by omega
  refine ⟨h1, if_neg hn, ?_, fun pts a z => if_neg hn⟩
  unfold scC
  rw [if_neg hn, h1, Int.toNat_natCast, getElem!_pos S j hj, Option.some.inj hs]
def cntN (pts : List Pt) (ns : List ByteArray) : Nat := (pts.filter (fun p : Pt => ns.any fun n => decide (p.sc = n))).length
theorem cnt_nil (pts : List Pt) : cntN pts [] = 0 := by simp [cntN]
theorem cnt_snoc {pts : List Pt} {ns : List ByteArray} {nm : ByteArray} (hn : nm ∉ ns) (ht : ∀ p ∈ pts, 0 ≤ p.tm ∧ p.tm < 1099511627776) : cntN pts (ns ++ [nm]) = cntN pts ns + (scanR pts nm (-9223372036854775808) 9223372036854775807).length := by
  unfold cntN scanR
  rw [List.length_map, ← List.length_append]
  refine (List.Perm.length_eq (filter_split _ _ _ pts fun p hp => ?_)).symm
  have h1 := ht p hp
  have e : ofP nm (-9223372036854775808) 9223372036854775807 p = decide (p.sc = nm) := by
    unfold ofP
    congr 1
    apply propext
    exact ⟨fun h => h.1, fun h => ⟨h, by omega, by omega⟩⟩
  rw [e]
  constructor
  · rw [List.any_append]; simp
  · rw [Bool.and_eq_false_iff]
    by_cases c : p.sc = nm
    · left
      rw [List.any_eq_false]
      intro n hn' h
      rw [decide_eq_true_eq] at h
      exact hn (by rw [← c, h]; exact hn')
    · right; exact decide_eq_false c
theorem cnt_all {S : List Sc} {pts : List Pt} (hc : checkS S = 0) (hf : ∀ q ∈ pts, fitsS S q = 0) : cntN pts (S.map Sc.nm) = pts.length := by
  unfold cntN
  rw [List.filter_eq_self.2]
  intro p hp
  obtain ⟨j, s, hs, _, hn, _, _⟩ := fit_at hc (hf p hp)
  rw [List.any_eq_true]
  exact ⟨s.nm, List.mem_map.2 ⟨s, List.mem_of_getElem? hs, rfl⟩, decide_eq_true hn.symm⟩
theorem fit_tm {S : List Sc} {pts : List Pt} (hc : checkS S = 0) (hf : ∀ q ∈ pts, fitsS S q = 0) : ∀ p ∈ pts, 0 ≤ p.tm ∧ p.tm < 1099511627776 := fun p hp => let ⟨_, _, _, _, h1, h2⟩ := fit_facts hc (hf p hp); ⟨h1, h2⟩
theorem scan_le (pts : List Pt) (nm : ByteArray) (a z : Int) : (sortR (scanR pts nm a z)).length ≤ pts.length := by
  rw [sortR_length]
  unfold scanR
  rw [List.length_map]
  exact List.length_filter_le _ _
theorem cnt_le (pts : List Pt) (ns : List ByteArray) : cntN pts ns ≤ pts.length := List.length_filter_le _ _
theorem names_take {S : List Sc} {k : Nat} {s : Sc} (hs : S[k]? = some s) : (S.take (k + 1)).map Sc.nm = (S.take k).map Sc.nm ++ [s.nm] := by rw [List.take_add_one, hs]; simp
theorem name_new {S : List Sc} (hc : checkS S = 0) {k : Nat} {s : Sc} (hs : S[k]? = some s) : s.nm ∉ (S.take k).map Sc.nm := by
  have hk := (List.getElem?_eq_some_iff.1 hs).1
  have hn := (check_parts0 hc).2.2
  have e : S.map Sc.nm = (S.take (k + 1)).map Sc.nm ++ (S.drop (k + 1)).map Sc.nm := by rw [← List.map_append, List.take_append_drop]
  rw [e, names_take hs] at hn
  have h1 := (List.nodup_append.1 hn).1
  have h2 := (List.nodup_append.1 h1).2.2
  intro hm
  exact h2 _ hm _ (by simp) rfl
theorem schs_take {w : World} {p : Option Addr} {n cap m : Nat} {S : List Sc} (h : SchsAt w (.slice p n cap) S) (hm : m ≤ n) : SchsAt w (.slice p m cap) (S.take m) := by
  obtain ⟨hs, ⟨p', cap', hv, hc, hmx, hx⟩, hh⟩ := h
  cases hv
  refine ⟨hs.take m, ⟨p, cap, by rw [List.length_take, Nat.min_eq_left hm], ⟨by rw [List.length_take]; omega, hc.2⟩, by rw [List.length_take]; omega, fun hne => ?_⟩, hh.take m⟩
  obtain ⟨b, o, hp, hQ, hj⟩ := hx (by intro e; rw [e] at hne; simp at hne)
  refine ⟨b, o, hp, ⟨hQ.1, Nat.le_trans (Nat.mul_le_mul_right _ (by rw [List.length_take]; omega)) hQ.2⟩, fun j x hjx => hj j x ?_⟩
  rw [List.getElem?_take] at hjx
  split at hjx
  · exact hjx
  · cases hjx
theorem check_long {S : List Sc} (h : 8 < S.length) : checkS S = 50 := by
  rcases check_two S with h0 | h0
  · have := (check_parts0 h0).1; omega
  · exact h0
end Go.Proofs.YtlbjbkhcnafhcaaGreat
namespace Go.Proofs.YtlbjbkhcnafhcaaGreat
open Go.RowKit Go.Sort Go.Shelf

def keepE (cs : List Cl) (rs : List Rw) (ns : List ByteArray) : Int := if checkV cs rs = 0 then (if places cs ns [] = [] then 20 else 0) else checkV cs rs
def keepC (cs : List Cl) (rs : List Rw) (ns : List ByteArray) : List Cl := if keepE cs rs ns = 0 then (places cs ns []).map (fun p => cs[p]!) else []
def keepR (cs : List Cl) (rs : List Rw) (ns : List ByteArray) : List Rw := if keepE cs rs ns = 0 then sortR (rs.map fun r => (places cs ns []).map fun p => r[p]!) else []
theorem tab_nil (Q : Nat → Prop) (w : World) : TabIn Q w (.agg #[.slice none 0 0, .slice none 0 0]) [] [] := ⟨_, _, rfl, SlAt.nil _ _ _ _, [], SlAt.nil _ _ _ _, ⟨rfl, fun j h r h1 _ => by simp at h1⟩⟩
theorem check_fits {cs : List Cl} {rs : List Rw} (h : checkV cs rs = 0) : ∀ r ∈ rs, r.length = cs.length := by
  intro r hr
  unfold checkV at h
  split at h
  · split at h
    · rename_i h1 h2
      rw [List.all_eq_true] at h2
      have := h2 r hr
      simp only [rowB, decide_eq_true_eq] at this
      exact this.1
    · omega
  · omega
end Go.Proofs.YtlbjbkhcnafhcaaGreat
namespace Go.Proofs.YtlbjbkhcnafhcaaGreat
open Go.RowKit Go.Sort Go.Shelf

def cols0 : List Cl := [cK, cN]
def rowsA : List Rw := (List.range 3).map (rowS ⟨#[98, 97, 97]⟩ [1, 2, 1])
def rowsB : List Rw := (List.range 3).map (rowS ⟨#[97, 97, 98]⟩ [1, 2, 1])
def nmN : ByteArray := ⟨#[110]⟩
def nmX : ByteArray := ⟨#[120]⟩
def vSt (c : UInt8) : Vl := ⟨2, 0, ⟨#[c]⟩, 0, 0, 0, 0, 0, 0, 0, 0, by unfold maxLen; simp [ByteArray.size]⟩
theorem find_n : findC cols0 nmN = 1 := by kernel_rfl
theorem find_x : findC cols0 nmX = -1 := by kernel_rfl
theorem name_1 : nameB ⟨#[97, 35, 98]⟩ = true := by kernel_rfl
theorem name_2 : nameB ⟨#[57]⟩ = false := by kernel_rfl
theorem name_3 : nameB ⟨#[]⟩ = false := by kernel_rfl
theorem check_twice : checkV [cK, cK] [] = 20 := by kernel_rfl
theorem check_short : checkV cols0 [[vSt 97]] = 21 := by kernel_rfl
theorem check_A : checkV cols0 rowsA = 0 := by kernel_rfl
theorem places_n : places cols0 [nmN] [] = [1] := by kernel_rfl
theorem row_at (s : ByteArray) (ns : List Int) (i : Nat) {c : UInt8} (h : s.extract i (i + 1) = ⟨#[c]⟩) : rowS s ns i = [vSt c, vInt ns[i]!] := by
  unfold rowS vS vSt
  simp only [h]
theorem rowsA_is : rowsA = [[vSt 98, vInt 1], [vSt 97, vInt 2], [vSt 97, vInt 1]] := by
  show [rowS _ _ 0, rowS _ _ 1, rowS _ _ 2] = _
  rw [row_at (c := 98) _ _ 0 (by kernel_rfl), row_at (c := 97) _ _ 1 (by kernel_rfl), row_at (c := 97) _ _ 2 (by kernel_rfl)]; rfl
theorem rowsB_is : rowsB = [[vSt 97, vInt 1], [vSt 97, vInt 2], [vSt 98, vInt 1]] := by
  show [rowS _ _ 0, rowS _ _ 1, rowS _ _ 2] = _
  rw [row_at (c := 97) _ _ 0 (by kernel_rfl), row_at (c := 97) _ _ 1 (by kernel_rfl), row_at (c := 98) _ _ 2 (by kernel_rfl)]; rfl
theorem up3 {x y z : Rw} (h1 : cmpR x y ≤ 0) (h2 : cmpR x z ≤ 0) (h3 : cmpR y z ≤ 0) : upR [x, y, z] := by
  unfold upR
  simp [h1, h2, h3]
theorem canon_A : sortR rowsA = rowsB := by
  rw [rowsA_is, rowsB_is]
  exact (sortR_of (up3 (by rw [show cmpR [vSt 97, vInt 1] [vSt 97, vInt 2] = -1 by kernel_rfl]; decide) (by rw [show cmpR [vSt 97, vInt 1] [vSt 98, vInt 1] = -1 by kernel_rfl]; decide) (by rw [show cmpR [vSt 97, vInt 2] [vSt 98, vInt 1] = -1 by kernel_rfl]; decide)) (List.reverse_perm [[vSt 98, vInt 1], [vSt 97, vInt 2], [vSt 97, vInt 1]])).symm
theorem keepE_A : keepE cols0 rowsA [nmN] = 0 := by unfold keepE; rw [check_A, places_n]; rfl
theorem keepC_A : keepC cols0 rowsA [nmN] = [cN] := by unfold keepC; rw [keepE_A, places_n]; rfl
theorem keepR_A : keepR cols0 rowsA [nmN] = [[vInt 1], [vInt 1], [vInt 2]] := by
  unfold keepR
  rw [keepE_A, places_n, rowsA_is, if_pos rfl]
  show sortR [[vInt 1], [vInt 2], [vInt 1]] = _
  exact (sortR_of (up3 (by rw [show cmpR [vInt 1] [vInt 1] = 0 by kernel_rfl]; decide) (by rw [show cmpR [vInt 1] [vInt 2] = -1 by kernel_rfl]; decide) (by rw [show cmpR [vInt 1] [vInt 2] = -1 by kernel_rfl]; decide)) (List.Perm.cons _ (List.Perm.swap _ _ _))).symm
theorem unionE_A : unionE cols0 rowsA cols0 rowsA = 0 := by unfold unionE; rw [check_A]; rfl
theorem unionR_A : (unionR cols0 rowsA cols0 rowsA).length = 6 := by
  unfold unionR
  rw [unionE_A, if_pos rfl, sortR_length, rowsA_is]
  rfl
end Go.Proofs.YtlbjbkhcnafhcaaGreat
namespace Go.Proofs.YtlbjbkhcnafhcaaGreat
open Go.RowKit Go.Sort Go.Shelf

theorem three_sl (w : World) : SlAt any encI 1 (w.alloc (.cells #[.int .i64 1, .int .i64 2, .int .i64 1] 3)) (.slice (some ⟨w.heap.size, 0, none⟩) 3 3) [1, 2, 1] :=
  SlAt.imp (lit_sl (enc := encI) (k := 1) (xs := [1, 2, 1]) (alloc_block w _) (fun _ => rfl) rfl rfl (Nat.le_refl _) (by decide)) (fun _ _ => trivial)
theorem TabAt.form {w : World} {v : Value} {cs : List Cl} {rs : List Rw} {n m : Nat} (h : TabAt w v cs rs) (hn : cs.length = n) (hm : rs.length = m) : ∃ pc capc pr capr, v = .agg #[.slice pc n capc, .slice pr m capr] := by
  subst hn hm
  obtain ⟨c, r, rfl, ⟨pc, capc, rfl, -⟩, hs, ⟨pr, capr, rfl, -⟩, hh⟩ := h
  exact ⟨pc, capc, pr, capr, by rw [hh.1]⟩
theorem canonA_any {v : Value} {w : World} (hv : TabAt w v cols0 rowsA) : Calls Tryz.prog 36 #[v] w fun e w' => ∃ v', e = .returned v' ∧ TabAt w' v' cols0 rowsB ∧ Below w.heap.size w w' :=
  (canon_any hv).mono fun _ _ ⟨v, he, ht, hb⟩ => ⟨v, he, by rw [canon_A] at ht; exact ht.at, hb⟩
theorem three_sl' (w : World) (x : Obj) : SlAt any encI 1 ((w.alloc x).alloc (.cells #[.int .i64 1, .int .i64 2, .int .i64 1] 3)) (.slice (some ⟨w.heap.size + 1, 0, none⟩) 3 3) [1, 2, 1] :=
  SlAt.imp (lit_sl (enc := encI) (k := 1) (xs := [1, 2, 1]) (alloc_blk2' w x _) (fun _ => rfl) rfl rfl (Nat.le_refl _) (by decide)) (fun _ _ => trivial)
theorem name_sl' (w : World) (x : Obj) : NamesAt ((w.alloc x).alloc (.cells #[.string ⟨#[110]⟩] 9)) (.slice (some ⟨w.heap.size + 1, 0, none⟩) 1 1) [nmN] :=
  SlAt.imp (lit_sl (enc := encS) (k := 1) (xs := [nmN]) (alloc_blk2' w x _) (fun _ => rfl) rfl rfl (Nat.le_refl _) (by decide)) (fun _ _ => trivial)
theorem below_3 (w : World) (x y z : Obj) : Below w.heap.size w (((w.alloc x).alloc y).alloc z) := (below_aa w x y).alloc (by simp; omega) z
theorem below_6 (w : World) (a b c d e f : Obj) : Below w.heap.size w ((((((w.alloc a).alloc b).alloc c).alloc d).alloc e).alloc f) := (((below_3 w a b c).alloc (by simp; omega) d).alloc (by simp; omega) e).alloc (by simp; omega) f
theorem blk_on {w : World} {b : Nat} {o : Obj} (h : w.heap[b]? = some o) (x : Obj) : (w.alloc x).heap[b]? = some o := block_on h ((Below.refl _ _).alloc (Nat.le_refl _) x)
theorem six0 (w : World) (a b c d e f : Obj) : ((((((w.alloc a).alloc b).alloc c).alloc d).alloc e).alloc f).heap[w.heap.size]? = some a := by
  have h := alloc_block w a
  exact blk_on (blk_on (blk_on (blk_on (blk_on h b) c) d) e) f
theorem six1 (w : World) (a b c d e f : Obj) : ((((((w.alloc a).alloc b).alloc c).alloc d).alloc e).alloc f).heap[w.heap.size + 1]? = some b := by
  have h := alloc_block (w.alloc a) b
  simp only [World.size_alloc] at h
  exact blk_on (blk_on (blk_on (blk_on h c) d) e) f
theorem six2 (w : World) (a b c d e f : Obj) : ((((((w.alloc a).alloc b).alloc c).alloc d).alloc e).alloc f).heap[w.heap.size + 1 + 1]? = some c := by
  have h := alloc_block ((w.alloc a).alloc b) c
  simp only [World.size_alloc] at h
  exact blk_on (blk_on (blk_on h d) e) f
theorem six3 (w : World) (a b c d e f : Obj) : ((((((w.alloc a).alloc b).alloc c).alloc d).alloc e).alloc f).heap[w.heap.size + 1 + 1 + 1]? = some d := by
  have h := alloc_block (((w.alloc a).alloc b).alloc c) d
  simp only [World.size_alloc] at h
  exact blk_on (blk_on h e) f
theorem six4 (w : World) (a b c d e f : Obj) : ((((((w.alloc a).alloc b).alloc c).alloc d).alloc e).alloc f).heap[w.heap.size + 1 + 1 + 1 + 1]? = some e := by
  have h := alloc_block ((((w.alloc a).alloc b).alloc c).alloc d) e
  simp only [World.size_alloc] at h
  exact blk_on h f
theorem six5 (w : World) (a b c d e f : Obj) : ((((((w.alloc a).alloc b).alloc c).alloc d).alloc e).alloc f).heap[w.heap.size + 1 + 1 + 1 + 1 + 1]? = some f := by
  have h := alloc_block (((((w.alloc a).alloc b).alloc c).alloc d).alloc e) f
  simp only [World.size_alloc] at h
  exact h
/- What is read of the kept table: the third row's one number. -/
theorem third_row {w : World} {c : Value} {pr : Option Addr} {cap : Nat} (h : TabAt w (.agg #[c, .slice pr 3 cap]) [cN] [[vInt 1], [vInt 1], [vInt 2]]) :
    ∃ b o b' o' cap', pr = some ⟨b, o, none⟩ ∧ w.cell? ⟨b, o + 2, none⟩ = some (.slice (some ⟨b', o', none⟩) 1 cap') ∧ w.cell? ⟨b', o' + 1, none⟩ = some (.int .i64 2) := by
  obtain ⟨c', r, hv, hc, hs, ⟨p, cap2, rfl, -, -, hx⟩, hh⟩ := h
  injection hv with hv
  injection hv with hv
  injection hv with _ hv
  injection hv with hv _
  injection hv with e1 e2 e3
  subst e1
  have hl : hs.length = 3 := e2.symm
  obtain ⟨b, o, hp, -, hj⟩ := hx (by intro e; subst e; simp at hl)
  have h2 : hs[2]? = some hs[2] := List.getElem?_eq_getElem (by omega)
  have hd := head_cell hj h2
  obtain ⟨p', cap', hv', -, -, hx'⟩ := hh.2 2 _ [vInt 2] h2 rfl
  obtain ⟨b', o', hp', -, hj'⟩ := hx' (by simp)
  subst hp'
  refine ⟨b, o, b', o', cap', hp, ?_, ?_⟩
  · rw [hd, hv']; rfl
  · have := hj' 0 (vInt 2) rfl 1 (.int .i64 2) rfl
    simpa using this
theorem tab_twice {w : World} {b : Nat} (h : w.heap[b]? = some (.cells #[.string ⟨#[107]⟩, .int .i64 2, .string ⟨#[107]⟩, .int .i64 2] 90 (0, 0))) : TabAt w (.agg #[.slice (some ⟨b, 0, none⟩) 2 2, .slice none 0 0]) [cK, cK] [] :=
  ⟨_, _, rfl, SlAt.imp (lit_sl (enc := Cl.cells) (k := 2) (xs := [cK, cK]) h cl_len rfl rfl (Nat.le_refl _) (by decide)) (fun _ _ => trivial), [], SlAt.nil _ _ _ _, ⟨rfl, fun j h r h1 _ => by simp at h1⟩⟩
theorem tab_short {w : World} {b g : Nat} {c : Value} (hc : ColsAt w c cols0) (h : w.heap[b]? = some (.cells #[.int .i64 2, .int .i64 0, .string ⟨#[97]⟩, .int .i64 0, .int .i64 0, .int .i64 0, .int .i64 0, .int .i64 0, .int .i64 0, .int .i64 0, .int .i64 0] 40 (0, 0))) (hg : w.heap[g]? = some (.cells #[.slice (some ⟨b, 0, none⟩) 1 1] 32 (0, 0))) : TabAt w (.agg #[c, .slice (some ⟨g, 0, none⟩) 1 1]) cols0 [[vSt 97]] := by
  refine ⟨_, _, rfl, hc, [.slice (some ⟨b, 0, none⟩) 1 1], SlAt.imp (lit_sl (enc := one) (k := 1) (xs := [.slice (some ⟨b, 0, none⟩) 1 1]) hg one_len rfl rfl (Nat.le_refl _) (by simp)) (fun _ _ => trivial), ⟨rfl, fun j x r h1 h2 => ?_⟩⟩
  have hj : j = 0 := by have := (List.getElem?_eq_some_iff.1 h1).1; simpa using this
  subst hj
  simp at h1 h2
  subst h1 h2
  exact SlAt.imp (lit_sl (enc := Vl.cells) (k := 11) (xs := [vSt 97]) h vl_len rfl rfl (Nat.le_refl _) (by decide)) (fun _ _ => trivial)
theorem TabAt.cols {w : World} {c r : Value} {cs : List Cl} {rs : List Rw} (h : TabAt w (.agg #[c, r]) cs rs) : ColsAt w c cs := by
  obtain ⟨c', r', hv, hc, _⟩ := h
  injection hv with hv
  injection hv with hv
  injection hv with e _
  subst e
  exact hc
theorem name_is2 {s : ByteArray} {r : Bool} {w : World} (hs : s.size ≤ maxLen) (h : nameB s = r) : Calls Tryz.prog 94 #[.string s] w fun e w' => e = .returned (.bool r) ∧ w' = w := by rw [← h]; exact name_any hs
theorem find_it {v : Value} {cs : List Cl} {nm : ByteArray} {r : Int} {w : World} (hv : ColsAt w v cs) (h : findC cs nm = r) : Calls Tryz.prog 99 #[v, .string nm] w fun e w' => e = .returned (.int .i64 r) ∧ Below w.heap.size w w' := by rw [← h]; exact find_any hv
theorem nm_small (s : ByteArray) (h : s.size ≤ 3) : s.size ≤ maxLen := by unfold maxLen; omega
end Go.Proofs.YtlbjbkhcnafhcaaGreat
namespace Go.Proofs.YtlbjbkhcnafhcaaGreat
open Go.RowKit Go.Sort Go.Shelf

/- A table, its value written out, and the first rows of it. -/
theorem TabAt.cuts {w : World} {v : Value} {cs : List Cl} {rs : List Rw} (h : TabAt w v cs rs) : ∃ q nc cap' p n cap, v = .agg #[.slice q nc cap', .slice p n cap] ∧ n ≤ cap ∧ TabAt w (.agg #[.slice q nc cap', .slice p (min n 200) cap]) cs (rs.take 200) := by
  obtain ⟨c, r, rfl, hc, hs, hr, hh⟩ := h
  obtain ⟨q, cap', rfl, -⟩ := id hc
  obtain ⟨p, cap, rfl, ⟨hcap, -⟩, -⟩ := id hr
  refine ⟨_, _, _, p, _, cap, rfl, hcap, ?_⟩
  by_cases h : 200 < hs.length
  · rw [Nat.min_eq_right (by omega)]
    exact ⟨_, _, rfl, hc, hs.take 200, hr.take 200 (by omega), hh.take 200⟩
  · rw [Nat.min_eq_left (by omega), List.take_of_length_le (by rw [← hh.1]; omega)]
    exact ⟨_, _, rfl, hc, hs, hr, hh⟩
theorem regrown_block {w : World} {b : Nat} {xs : Array Value} {t : TypeId} {fz : Nat × Nat} (h : w.heap[b]? = some (.cells xs t fz)) (d : Nat) (os : Array Obj) (o : Nat) : (grow (redrawn w d) os).cell? ⟨b, o, none⟩ = xs[o]? := block_cell (block_on h (below_regrown w d os)) o
theorem rname_it {s : ByteArray} {r : Bool} {w : World} (hs : s.size ≤ maxLen) (h : nameB s = r) : Calls Tryz.prog 92 #[.string s] w fun e w' => e = .returned (.bool r) ∧ Below w.heap.size w w' := (rname_is hs h).mono (by rintro e w' ⟨rfl, rfl⟩; exact ⟨rfl, Below.refl _ _⟩)
theorem name_it {s : ByteArray} {r : Bool} {w : World} (hs : s.size ≤ maxLen) (h : nameB s = r) : Calls Tryz.prog 94 #[.string s] w fun e w' => e = .returned (.bool r) ∧ Below w.heap.size w w' := (name_is2 hs h).mono (by rintro e w' ⟨rfl, rfl⟩; exact ⟨rfl, Below.refl _ _⟩)
theorem rcheck_is {v : Value} {cs : List Cl} {rs : List Rw} {w : World} {c : Int} (hv : TabAt w v cs rs) (h : checkV cs rs = c) :
    Calls Tryz.prog 42 #[v] w fun e w' => e = .returned (.int .i64 c) ∧ Below w.heap.size w w' := by rw [← h]; exact rcheck_any hv
end Go.Proofs.YtlbjbkhcnafhcaaGreat
