/-
  What might of package hints returns, for any node.
-/
import Derived.Test.YtmkilckoeaekkaaQHBoth
namespace Go.Proofs.Ytmkilckoeaekkaa
open Go.RowKit Go.Sort Go.Maps Go.Shelf

/- A node's nineteen cells. -/
structure Nd where
  kind : Int
  s : ByteArray
  how : Int
  a : Int
  b : Int
  v : Vl
  lv : Value
  nv : Value
  gv : Value
def Nd.cells (q : Nd) : List Value := [.int .i64 q.kind, .string q.s, .int .i64 q.how, .int .i64 q.a, .int .i64 q.b, .int .i64 q.v.k, .int .i64 q.v.n, .string q.v.s, .int .i64 q.v.h0, .int .i64 q.v.h1, .int .i64 q.v.h2, .int .i64 q.v.h3, .int .i64 q.v.h4, .int .i64 q.v.h5, .int .i64 q.v.h6, .int .i64 q.v.h7, q.lv, q.nv, q.gv]
abbrev NdC (q : Nd) : Array Value := #[.int .i64 q.kind, .string q.s, .int .i64 q.how, .int .i64 q.a, .int .i64 q.b, .int .i64 q.v.k, .int .i64 q.v.n, .string q.v.s, .int .i64 q.v.h0, .int .i64 q.v.h1, .int .i64 q.v.h2, .int .i64 q.v.h3, .int .i64 q.v.h4, .int .i64 q.v.h5, .int .i64 q.v.h6, .int .i64 q.v.h7, q.lv, q.nv, q.gv]
def KK : Kinds := ⟨11, 12, 14, 15, 1, 2⟩
def Nd.q (q : Nd) (l : List Int) : Nq := ⟨q.kind, q.s, q.how, q.v.k, q.v.s, l⟩
/- What was told of the nodes ahead. -/
def Bl (w : World) (g : Nat) (may : List Bool) : Prop := ∀ (j : Nat) t, may[j]? = some t → w.cell? ⟨g, j, none⟩ = some (.bool t)
theorem Bl.on {w w' : World} {g : Nat} {may : List Bool} (h : Bl w g may) (hb : Below w.heap.size w w') : Bl w' g may := fun j t ht => (hb.cell (p := ⟨g, j, none⟩) (block_lt_of_cell (h j t ht))).trans (h j t ht)
theorem two_of {q : Nq} {k : Nat} {a b : Nat} (hl : q.l = [(a : Int), (b : Int)]) (ha : a < k) (hb : b < k) : two q k = some (a, b) := by
  unfold two; rw [hl]; simp [ha, hb]
theorem two_none {q : Nq} {k : Nat} (h : twoB q.l k = false) : two q k = none := by
  unfold two
  unfold twoB at h
  split
  · rename_i a b e
    rw [e] at h
    rw [if_neg]
    intro hh
    simp [hh] at h
  · rfl
theorem twoB_true {l : List Int} {k : Nat} (h : twoB l k = true) : ∃ a b : Nat, l = [(a : Int), (b : Int)] ∧ a < k ∧ b < k := by
  unfold twoB at h
  split at h
  · rename_i a b
    simp at h
    exact ⟨a.toNat, b.toNat, by rw [Int.toNat_of_nonneg h.1.1.1, Int.toNat_of_nonneg h.1.2], by omega, by omega⟩
  · cases h
theorem quiet_box {W : World} {b : Nat} {F : Nat → Option Value} {o : Obj} (hb : W.heap[b]? = some o) (h : ∀ o, W.cell? ⟨b, o, none⟩ = F o) : ∀ d os o, (grow (redrawn W d) os).cell? ⟨b, o, none⟩ = F o := fun d os o => ((below_regrown W d os).cell (p := ⟨b, o, none⟩) (lt_of_block hb)).trans (h o)
theorem ahead_at {w : World} {g : Nat} {may : List Bool} (h : Bl w g may) {a : Nat} (ha : a < may.length) : ∃ t, w.cell? ⟨g, a, none⟩ = some (.bool t) ∧ may.getD a true = t := by
  have e := List.getElem?_eq_getElem ha
  exact ⟨_, h a _ e, by rw [List.getD_eq_getElem?_getD, e]; rfl⟩
theorem two_at {Q : Nat → Prop} {w : World} {p : Option Addr} {n c : Nat} {a b : Int} (h : SlAt Q int1 1 w (.slice p n c) [a, b]) : ∃ g o, p = some ⟨g, o, none⟩ ∧ w.cell? ⟨g, o, none⟩ = some (.int .i64 a) ∧ w.cell? ⟨g, o + 1, none⟩ = some (.int .i64 b) ∧ n = 2 ∧ 2 ≤ c := by
  obtain ⟨p', c', e0, h1, _⟩ := h.form
  cases e0
  obtain ⟨g, o, rfl, _, c0⟩ := h.at (j := 0) rfl
  obtain ⟨g', o', e', _, c1⟩ := h.at (j := 1) rfl
  cases e'
  exact ⟨g, o, rfl, by simpa using c0 0 _ rfl, by simpa using c1 0 _ rfl, rfl, h1⟩
section
variable {w : World} {m C : Nat} {x : Ix} {nm : ByteArray} {q : Nd} {l : List Int} {Q : Nat → Prop} {g cap : Nat} {may : List Bool}
abbrev MightP (w : World) (x : Ix) (nm : ByteArray) (q : Nd) (l : List Int) (may : List Bool) (e : Ending) (w' : World) : Prop := e = .returned (.bool (mayOne KK x nm may (q.q l))) ∧ Below w.heap.size w w'
theorem node_box (w : World) (q : Nd) : ∀ o, (w.alloc (.cells (NdC q) 63)).cell? ⟨w.heap.size, o, none⟩ = (NdC q)[o]? := block_cell (alloc_block _ _)
set_option maxRecDepth 100000 in
set_option maxHeartbeats 4000000 in
theorem might_and (hl : SlAt Q int1 1 w q.lv l) (hb : Bl w g may) (hk : q.kind = 11) : Calls Try.prog 28 #[mp m, .agg (NdC q), .slice (some ⟨g, 0, none⟩) may.length cap] w (MightP w x nm q l may) := by
  have HB : Hid (Below w.heap.size w (w.alloc (.cells (NdC q) 63))) := (Below.refl _ _).alloc (Nat.le_refl _) _
  have k0 := node_box w q
  have HL := hid (hl.on HB.out)
  have hBl := hb.on HB.out
  have hz : w.heap.size < (w.alloc (.cells (NdC q) 63)).heap.size := by simp
  generalize hW : w.alloc (.cells (NdC q) 63) = w1 at *
  have HW := hid hW
  clear hW hb
  obtain ⟨p, c, hlv, hc1, hc2⟩ := hl.form
  clear hl
  unfold maxLen at hc2
  obtain ⟨r, hr⟩ : ∃ r, mayOne KK x nm may (q.q l) = r := ⟨_, rfl⟩
  unfold MightP
  rw [hr]
  have hr' := hr
  unfold mayOne at hr'
  rw [if_pos (show (q.q l).kind = KK.and_ from hk)] at hr'
  obtain ⟨kind, s, how, a, b, v, lv, nv, gv⟩ := q
  simp only at hk hlv
  subst hk hlv
  simp only [NdC] at k0 HW HB ⊢
  cases ht : twoB l may.length with
  | false =>
    have hn : two (Nd.q ⟨11, s, how, a, b, v, .slice p l.length c, nv, gv⟩ l) may.length = none := two_none ht
    rw [hn] at hr'
    simp only at hr'
    subst hr'
    have HT := hid ht
    clear ht hn hr
    generalize hln : l.length = ln at *
    generalize hmn : may.length = mn at *
    clear hln hmn
    go_enter Try.func28, Try.ntmps28
    go_upto_region 1 with fail
    rw [HW.out]
    go_wp2_with (go_at_call 34; refine (both_is HL.out HT.out).mono ?_; rintro e w2 ⟨rfl, rfl⟩)
    go_ret
    exact ⟨rfl, HB.out⟩
  | true =>
    obtain ⟨a', b', rfl, ha, hb'⟩ := twoB_true ht
    have hn : two (Nd.q ⟨11, s, how, a, b, v, .slice p [(a' : Int), (b' : Int)].length c, nv, gv⟩ [(a' : Int), (b' : Int)]) may.length = some (a', b') := two_of rfl ha hb'
    rw [hn] at hr'
    simp only at hr'
    obtain ⟨t1, d1, e1⟩ := ahead_at hBl ha
    obtain ⟨t2, d2, e2⟩ := ahead_at hBl hb'
    rw [e1, e2] at hr'
    obtain ⟨gl, ol, rfl, d3, d4, hln, hc2'⟩ := two_at HL.out
    have HT := hid ht
    clear ht hn hr e1 e2 hBl
    have iA : (a' : Int) < (may.length : Int) := by omega
    have iB : (b' : Int) < (may.length : Int) := by omega
    generalize hmn : may.length = mn at *
    clear hmn hc1
    simp only [List.length_cons, List.length_nil, Nat.zero_add, Nat.reduceAdd] at k0 HW HL hln HB ⊢
    cases t1 with
    | true =>
      cases t2 with
      | true =>
        subst hr'
        go_enter Try.func28, Try.ntmps28
        go_upto_region 1 with fail
        rw [HW.out]
        go_wp2_with (go_at_call 34; refine (both_is HL.out HT.out).mono ?_; rintro e w2 ⟨rfl, rfl⟩)
        go_ret
        exact ⟨rfl, HB.out⟩
      | false =>
        subst hr'
        go_enter Try.func28, Try.ntmps28
        go_upto_region 1 with fail
        rw [HW.out]
        go_wp2_with (go_at_call 34; refine (both_is HL.out HT.out).mono ?_; rintro e w2 ⟨rfl, rfl⟩)
        go_ret
        exact ⟨rfl, HB.out⟩
    | false =>
      cases t2 with
      | true =>
        subst hr'
        go_enter Try.func28, Try.ntmps28
        go_upto_region 1 with fail
        rw [HW.out]
        go_wp2_with (go_at_call 34; refine (both_is HL.out HT.out).mono ?_; rintro e w2 ⟨rfl, rfl⟩)
        go_ret
        exact ⟨rfl, HB.out⟩
      | false =>
        subst hr'
        go_enter Try.func28, Try.ntmps28
        go_upto_region 1 with fail
        rw [HW.out]
        go_wp2_with (go_at_call 34; refine (both_is HL.out HT.out).mono ?_; rintro e w2 ⟨rfl, rfl⟩)
        go_ret
        exact ⟨rfl, HB.out⟩
set_option maxRecDepth 100000 in
set_option maxHeartbeats 4000000 in
theorem might_or (hl : SlAt Q int1 1 w q.lv l) (hb : Bl w g may) (hk : q.kind = 12) : Calls Try.prog 28 #[mp m, .agg (NdC q), .slice (some ⟨g, 0, none⟩) may.length cap] w (MightP w x nm q l may) := by
  have HB : Hid (Below w.heap.size w (w.alloc (.cells (NdC q) 63))) := (Below.refl _ _).alloc (Nat.le_refl _) _
  have k0 := node_box w q
  have HL := hid (hl.on HB.out)
  have hBl := hb.on HB.out
  have hz : w.heap.size < (w.alloc (.cells (NdC q) 63)).heap.size := by simp
  generalize hW : w.alloc (.cells (NdC q) 63) = w1 at *
  have HW := hid hW
  clear hW hb
  obtain ⟨p, c, hlv, hc1, hc2⟩ := hl.form
  clear hl
  unfold maxLen at hc2
  obtain ⟨r, hr⟩ : ∃ r, mayOne KK x nm may (q.q l) = r := ⟨_, rfl⟩
  unfold MightP
  rw [hr]
  have hr' := hr
  unfold mayOne at hr'
  rw [if_neg (show ¬ (q.q l).kind = KK.and_ by rw [show (q.q l).kind = q.kind from rfl, hk]; decide), if_pos (show (q.q l).kind = KK.or_ from hk)] at hr'
  obtain ⟨kind, s, how, a, b, v, lv, nv, gv⟩ := q
  simp only at hk hlv
  subst hk hlv
  simp only [NdC] at k0 HW HB ⊢
  cases ht : twoB l may.length with
  | false =>
    have hn : two (Nd.q ⟨12, s, how, a, b, v, .slice p l.length c, nv, gv⟩ l) may.length = none := two_none ht
    rw [hn] at hr'
    simp only at hr'
    subst hr'
    have HT := hid ht
    clear ht hn hr
    generalize hln : l.length = ln at *
    generalize hmn : may.length = mn at *
    clear hln hmn
    go_enter Try.func28, Try.ntmps28
    go_upto_region 1 with fail
    rw [HW.out]
    go_wp2_with (go_at_call 34; refine (both_is HL.out HT.out).mono ?_; rintro e w2 ⟨rfl, rfl⟩)
    go_ret
    exact ⟨rfl, HB.out⟩
  | true =>
    obtain ⟨a', b', rfl, ha, hb'⟩ := twoB_true ht
    have hn : two (Nd.q ⟨12, s, how, a, b, v, .slice p [(a' : Int), (b' : Int)].length c, nv, gv⟩ [(a' : Int), (b' : Int)]) may.length = some (a', b') := two_of rfl ha hb'
    rw [hn] at hr'
    simp only at hr'
    obtain ⟨t1, d1, e1⟩ := ahead_at hBl ha
    obtain ⟨t2, d2, e2⟩ := ahead_at hBl hb'
    rw [e1, e2] at hr'
    obtain ⟨gl, ol, rfl, d3, d4, hln, hc2'⟩ := two_at HL.out
    have HT := hid ht
    clear ht hn hr e1 e2 hBl
    have iA : (a' : Int) < (may.length : Int) := by omega
    have iB : (b' : Int) < (may.length : Int) := by omega
    generalize hmn : may.length = mn at *
    clear hmn hc1
    simp only [List.length_cons, List.length_nil, Nat.zero_add, Nat.reduceAdd] at k0 HW HL hln HB ⊢
    cases t1 with
    | true =>
      cases t2 with
      | true =>
        subst hr'
        go_enter Try.func28, Try.ntmps28
        go_upto_region 1 with fail
        rw [HW.out]
        go_wp2_with (go_at_call 34; refine (both_is HL.out HT.out).mono ?_; rintro e w2 ⟨rfl, rfl⟩)
        go_ret
        exact ⟨rfl, HB.out⟩
      | false =>
        subst hr'
        go_enter Try.func28, Try.ntmps28
        go_upto_region 1 with fail
        rw [HW.out]
        go_wp2_with (go_at_call 34; refine (both_is HL.out HT.out).mono ?_; rintro e w2 ⟨rfl, rfl⟩)
        go_ret
        exact ⟨rfl, HB.out⟩
    | false =>
      cases t2 with
      | true =>
        subst hr'
        go_enter Try.func28, Try.ntmps28
        go_upto_region 1 with fail
        rw [HW.out]
        go_wp2_with (go_at_call 34; refine (both_is HL.out HT.out).mono ?_; rintro e w2 ⟨rfl, rfl⟩)
        go_ret
        exact ⟨rfl, HB.out⟩
      | false =>
        subst hr'
        go_enter Try.func28, Try.ntmps28
        go_upto_region 1 with fail
        rw [HW.out]
        go_wp2_with (go_at_call 34; refine (both_is HL.out HT.out).mono ?_; rintro e w2 ⟨rfl, rfl⟩)
        go_ret
        exact ⟨rfl, HB.out⟩
end
end Go.Proofs.Ytmkilckoeaekkaa
