/-
  The arguments opened as their types say.
-/
import Derived.Test.YtmkilckoeaekkaaRows
import Derived.Test.YtmkilckoeaekkaaQHGrow
import Derived.ProofKit
import Derived.LaidMore
import Derived.OpenShut
import Derived.SizedLaws
import Derived.Deep.Slices
import Derived.Lib.SmallJoins
namespace Go.Proofs.Ytmkilckoeaekkaa
open Go.ChangeShapes Go.WideShapes Go.ChangeAt Go.WideMaps Go.WideElems Go.RowKit Go.Joins

theorem own : ownKnob Try.prog.godebug = none := by kernel_rfl
theorem laidOut : laidOutB Try.prog = true := by kernel_rfl
theorem cells3 : Try.prog.cellsOf 3 = 1 := by kernel_rfl
theorem cells9 : Try.prog.cellsOf 9 = 1 := by kernel_rfl
theorem cells23 : Try.prog.cellsOf 23 = 1 := by kernel_rfl
theorem cells24 : Try.prog.cellsOf 24 = 1 := by kernel_rfl
theorem cells60 : Try.prog.cellsOf 60 = 1 := by kernel_rfl
theorem cells61 : Try.prog.cellsOf 61 = 1 := by kernel_rfl
theorem cells57 : Try.prog.cellsOf 57 = 8 := by kernel_rfl
theorem cells59 : Try.prog.cellsOf 59 = 11 := by kernel_rfl
theorem cells63 : Try.prog.cellsOf 63 = 19 := by kernel_rfl
theorem bytes63 : Try.prog.bytesOf 63 = 216 := by kernel_rfl
def Ok64 (n : Int) : Prop := -9223372036854775808 ≤ n ∧ n ≤ 9223372036854775807
theorem ok64_of {n : Int} (h : (Lit.int .i64 n).wf = true) : Ok64 n := by
  have e1 : IntKind.i64.min = -9223372036854775808 := rfl
  have e2 : IntKind.i64.max = 9223372036854775807 := rfl
  simp [Lit.wf, e1, e2] at h
  exact h
/- Each string and each slice of it takes no more than the form's reach. -/
def Fit {H : Type} (t : TypeId) (d : DataW H) : Prop := ∀ n ∈ d.weights Try.prog t, n ≤ reachBytes
theorem weightsAll_mem {H : Type} {e : TypeId} : ∀ {l : List (DataW H)} {d : DataW H}, d ∈ l → ∀ n ∈ d.weights Try.prog e, n ∈ DataW.weightsAll Try.prog e l
  | d' :: r, d, hd, n, hn => by
    simp only [DataW.weightsAll, List.mem_append]
    rcases List.mem_cons.1 hd with rfl | h
    · exact Or.inl hn
    · exact Or.inr (weightsAll_mem h n hn)
section
variable {H : Type} {enc : TypeId × Value → H} {W : World} {base : Nat} {spare : Nat → Bool} {held : Bool}
theorem fit_elem {t e : TypeId} (ht : Try.prog.underlying t = some (.slice e)) {es sp : List (DataW H)} (hf : Fit t (.slice es sp)) : (∀ d ∈ es, Fit e d) ∧ es.length * Try.prog.bytesOf e ≤ 140737488355328 := by
  constructor
  · intro d hd n hn
    exact hf n (by simp only [DataW.weights, ht, List.mem_cons, List.mem_append]; exact Or.inr (Or.inl (weightsAll_mem hd n hn)))
  · have := hf ((es.length + sp.length) * Try.prog.bytesOf e) (by simp only [DataW.weights, ht]; exact List.mem_cons_self ..)
    unfold reachBytes at this
    have h2 : es.length * Try.prog.bytesOf e ≤ (es.length + sp.length) * Try.prog.bytesOf e := Nat.mul_le_mul_right _ (Nat.le_add_right _ _)
    omega
theorem str_fit {s : ByteArray} (h : Fit 9 (.lit (.string s.data.toList) : DataW H)) : s.size ≤ 281474976710656 := by
  have h1 := h s.data.toList.length (by simp [DataW.weights])
  have h3 : s.data.toList.length = s.size := Array.length_toList
  unfold reachBytes at h1
  omega
/- A slice, elements that open one by one. -/
theorem open_sl {α : Type} [Inhabited α] {en : α → List Value} {k : Nat} {Good : α → Prop} {t e : TypeId} (ht : Try.prog.underlying t = some (.slice e)) (hc : Try.prog.cellsOf e = k) (hk : 0 < k) (hen : ∀ x, (en x).length = k)
    (each : ∀ n cs (y : DataW H × List MemPlace), DataW.trod enc Try.prog W base spare held n e cs = some y → Fit e y.1 → ∃ x, cs = en x ∧ Good x) {fuel : Nat} {v : Value} {y : DataW H × List MemPlace}
    (h : DataW.trod enc Try.prog W base spare held fuel t [v] = some y) (hf : Fit t y.1) : ∃ xs, SlAt (fun b => b < W.heap.size) en k W v xs ∧ (∀ x ∈ xs, Good x) ∧ xs.length * Try.prog.bytesOf e ≤ 140737488355328 := by
  rcases Deep.open_slice ht h with ⟨hcs, _⟩ | ⟨a, len, cap, m, n, D, Pl, hcs, hba, hl, hm, hmm, hx, hall⟩
  · cases hcs
    exact ⟨[], nil_sl _ _ _ _, fun x hx => (by cases hx), by simp⟩
  · cases hcs
    subst hx
    have hlm : len ≤ m := by rw [hmm]; split <;> omega
    obtain ⟨hfe, hbe⟩ := fit_elem ht hf
    obtain ⟨X, hX⟩ := Deep.choose_lt (α := α) (n := len) (p := fun i x => W.cells? base (a.add (i * k)) k = some (en x) ∧ Good x) (fun i hi => by
      obtain ⟨cs', h1, h2⟩ := hall i (by omega)
      rw [hc] at h1
      obtain ⟨x, rfl, hg⟩ := each n cs' _ h2 (hfe _ (List.mem_map.2 ⟨i, List.mem_range.2 hi, rfl⟩))
      exact ⟨x, h1, hg⟩)
    have hlen : ((List.range len).map X).length = len := by simp
    refine ⟨(List.range len).map X, ⟨some a, cap, by rw [hlen], ⟨by rw [hlen]; exact hl, by omega⟩, fun hne => ?_⟩, ?_, ?_⟩
    · have h0 : 0 < len := Nat.pos_of_ne_zero (fun e => hne (by rw [e]; rfl))
      obtain ⟨b, off, spot⟩ := a
      have hsp : spot = none := by
        have h1 := (World.cells?_some (hX 0 h0).1).2.2 0 hk
        rw [Nat.zero_mul] at h1
        have h2 : (en (X 0))[0]? = some ((en (X 0))[0]'(by rw [hen]; exact hk)) := List.getElem?_eq_getElem _
        rw [h2] at h1
        simpa [Addr.add] using World.cell?_spot h1
      subst hsp
      have hcell : ∀ (j : Nat) x, ((List.range len).map X)[j]? = some x → CellsAt W b (off + j * k) (en x) := fun j x hj i u hu => by
        have hj' : j < len := by have := (List.getElem?_eq_some_iff.1 hj).1; rwa [hlen] at this
        have hxj : X j = x := by simpa [List.getElem?_map, List.getElem?_range hj'] using hj
        subst hxj
        have hi : i < k := by have := (List.getElem?_eq_some_iff.1 hu).1; rwa [hen] at this
        have h1 := (World.cells?_some (hX j hj').1).2.2 i hi
        rw [hu, Addr.add_lit, Addr.add_lit] at h1
        exact h1
      refine ⟨b, off, rfl, ?_, hcell⟩
      have h2 : (en (X 0))[0]? = some ((en (X 0))[0]'(by rw [hen]; exact hk)) := List.getElem?_eq_getElem _
      exact block_lt_of_cell (hcell 0 (X 0) (by simp [h0]) 0 _ h2)
    · intro x hx
      obtain ⟨i, hi, rfl⟩ := List.mem_map.1 hx
      exact (hX i (List.mem_range.1 hi)).2
    · rw [hlen]
      simpa using hbe
theorem open_cell_str {n : Nat} {cs : List Value} {y : DataW H × List MemPlace} (h : DataW.trod enc Try.prog W base spare held n 9 cs = some y) (hf : Fit 9 y.1) : ∃ s : ByteArray, cs = str1 s ∧ s.size ≤ 281474976710656 := by
  obtain ⟨s, e2, e3, w2⟩ := DataW.trod_string Try.underlying9 h
  subst e3
  exact ⟨s, e2, str_fit hf⟩
theorem open_strs {r : Reach} {b0 : Nat} {v : Value} {d0 : DataW H} {p : List MemPlace} (hv : Value.okWide Try.prog W r b0 23 v) (h : DataW.Trod enc Try.prog W base spare held 23 v d0 p) (hf : Fit 23 d0) : ∃ l, Ho W.heap.size W v l := by
  obtain ⟨a0, len, cap0, rfl⟩ := okWide_slice Try.underlying23 hv
  obtain ⟨fuel, hfu⟩ := h
  obtain ⟨xs, hx, hg, _⟩ := open_sl (α := ByteArray) (en := str1) (k := 1) (Good := fun s => s.size ≤ 281474976710656) Try.underlying23 cells9 (by decide) (fun _ => rfl) (fun n cs y h hf => open_cell_str h hf) hfu hf
  exact ⟨xs, hx, fun s hs => by have := hg s hs; omega⟩
set_option maxRecDepth 100000 in
theorem open_cells8 {m : Nat} {cs : List Value} {y : DataW H × List MemPlace} (h : DataW.trod enc Try.prog W base spare held m 57 cs = some y) :
    ∃ a0 a1 a2 a3 a4 a5 a6 a7 : Int, cs = [.int .i64 a0, .int .i64 a1, .int .i64 a2, .int .i64 a3, .int .i64 a4, .int .i64 a5, .int .i64 a6, .int .i64 a7] := by
  obtain ⟨xs, m1, rfl, hx1, hlen, hn, hel⟩ := DataW.trod_array Try.underlying57 h
  rw [cells57] at hlen
  rw [cells3] at hel
  match cs, hlen with
  | [c0, c1, c2, c3, c4, c5, c6, c7], _ =>
    match xs, hn with
    | [x0, x1, x2, x3, x4, x5, x6, x7], _ =>
      obtain ⟨a0, e0, _⟩ := DataW.trod_int Try.underlying3 (show DataW.trod enc Try.prog W base spare held m1 3 _ = some x0 from hel 0 (by decide))
      obtain ⟨a1, e1, _⟩ := DataW.trod_int Try.underlying3 (show DataW.trod enc Try.prog W base spare held m1 3 _ = some x1 from hel 1 (by decide))
      obtain ⟨a2, e2, _⟩ := DataW.trod_int Try.underlying3 (show DataW.trod enc Try.prog W base spare held m1 3 _ = some x2 from hel 2 (by decide))
      obtain ⟨a3, e3, _⟩ := DataW.trod_int Try.underlying3 (show DataW.trod enc Try.prog W base spare held m1 3 _ = some x3 from hel 3 (by decide))
      obtain ⟨a4, e4, _⟩ := DataW.trod_int Try.underlying3 (show DataW.trod enc Try.prog W base spare held m1 3 _ = some x4 from hel 4 (by decide))
      obtain ⟨a5, e5, _⟩ := DataW.trod_int Try.underlying3 (show DataW.trod enc Try.prog W base spare held m1 3 _ = some x5 from hel 5 (by decide))
      obtain ⟨a6, e6, _⟩ := DataW.trod_int Try.underlying3 (show DataW.trod enc Try.prog W base spare held m1 3 _ = some x6 from hel 6 (by decide))
      obtain ⟨a7, e7, _⟩ := DataW.trod_int Try.underlying3 (show DataW.trod enc Try.prog W base spare held m1 3 _ = some x7 from hel 7 (by decide))
      simp at e0 e1 e2 e3 e4 e5 e6 e7
      subst e0 e1 e2 e3 e4 e5 e6 e7
      exact ⟨a0, a1, a2, a3, a4, a5, a6, a7, rfl⟩
set_option maxRecDepth 100000 in
theorem open_val {m : Nat} {cs : List Value} {y : DataW H × List MemPlace} (h : DataW.trod enc Try.prog W base spare held m 59 cs = some y) (hf : Fit 59 y.1) : ∃ x : Vl, cs = x.cells ∧ x.s.size ≤ 281474976710656 := by
  obtain ⟨y0, y1, y2, y3, n, hx, hl, h0, h1, h2, h3⟩ := trod_struct4 Try.underlying59 h
  rw [cells59] at hl
  replace h0 : DataW.trod enc Try.prog W base spare held n 3 ((cs.drop 0).take (Try.prog.cellsOf 3)) = some y0 := h0
  replace h1 : DataW.trod enc Try.prog W base spare held n 3 ((cs.drop 1).take (Try.prog.cellsOf 3)) = some y1 := h1
  replace h2 : DataW.trod enc Try.prog W base spare held n 9 ((cs.drop 2).take (Try.prog.cellsOf 9)) = some y2 := h2
  replace h3 : DataW.trod enc Try.prog W base spare held n 57 ((cs.drop 3).take (Try.prog.cellsOf 57)) = some y3 := h3
  rw [cells3] at h0 h1
  rw [cells9] at h2
  rw [cells57] at h3
  subst hx
  have f2 : Fit 9 y2.1 := fun m hm => hf m (by simp only [DataW.weights, Try.underlying59]; exact DataW.weights_mem_each (j := 2) (t := 9) rfl rfl m hm)
  match cs, hl with
  | [c0, c1, c2, c3, c4, c5, c6, c7, c8, c9, c10], _ =>
    obtain ⟨k, e0, _⟩ := DataW.trod_int Try.underlying3 h0
    obtain ⟨n, e1, _⟩ := DataW.trod_int Try.underlying3 h1
    obtain ⟨s, e2, hs⟩ := open_cell_str h2 f2
    obtain ⟨a0, a1, a2, a3, a4, a5, a6, a7, e3⟩ := open_cells8 h3
    simp [str1] at e0 e1 e2 e3
    obtain ⟨e3, e4, e5, e6, e7, e8, e9, e10⟩ := e3
    subst e0 e1 e2 e3 e4 e5 e6 e7 e8 e9 e10
    exact ⟨⟨k, n, s, a0, a1, a2, a3, a4, a5, a6, a7⟩, rfl, hs⟩
theorem open_ints {fuel : Nat} {v : Value} {y : DataW H × List MemPlace} (h : DataW.trod enc Try.prog W base spare held fuel 60 [v] = some y) (hf : Fit 60 y.1) : ∃ l, SlAt (fun b => b < W.heap.size) int1 1 W v l := by
  obtain ⟨xs, hx, _, _⟩ := open_sl (α := Int) (en := int1) (k := 1) (Good := fun _ => True) Try.underlying60 cells3 (by decide) (fun _ => rfl) (fun n cs y h hf => by
    obtain ⟨k, e0, _⟩ := DataW.trod_int Try.underlying3 h
    exact ⟨k, e0, trivial⟩) h hf
  exact ⟨xs, hx⟩
theorem open_form {t e : TypeId} (ht : Try.prog.underlying t = some (.slice e)) {fuel : Nat} {v : Value} {y : DataW H × List MemPlace} (h : DataW.trod enc Try.prog W base spare held fuel t [v] = some y) : ∃ p n c, v = .slice p n c := by
  rcases Deep.open_slice ht h with ⟨hcs, _⟩ | ⟨a, len, cap, m, n, D, Pl, hcs, _⟩
  · cases hcs; exact ⟨_, _, _, rfl⟩
  · cases hcs; exact ⟨_, _, _, rfl⟩
instance : Inhabited (Nd × List Int) := ⟨(⟨0, ⟨#[]⟩, 0, 0, 0, ⟨0, 0, ⟨#[]⟩, 0, 0, 0, 0, 0, 0, 0, 0⟩, .slice none 0 0, .slice none 0 0, .slice none 0 0⟩, [])⟩
def GoodN (W : World) (x : Nd × List Int) : Prop := x.1.s.size ≤ maxLen ∧ x.1.v.s.size ≤ 562949953421312 ∧ SlAt (fun k => k < W.heap.size) int1 1 W x.1.lv x.2 ∧ (∃ p n c, x.1.nv = .slice p n c) ∧ ∃ p n c, x.1.gv = .slice p n c
set_option maxRecDepth 100000 in
set_option maxHeartbeats 1000000 in
theorem open_node {m : Nat} {cs : List Value} {y : DataW H × List MemPlace} (h : DataW.trod enc Try.prog W base spare held m 63 cs = some y) (hf : Fit 63 y.1) : ∃ x : Nd × List Int, cs = x.1.cells ∧ GoodN W x := by
  obtain ⟨xs, n, _, hxe, hl, hlen, hfs⟩ := DataW.trod_struct Try.underlying63 h
  rw [cells63] at hl
  match xs, hlen with
  | [y0, y1, y2, y3, y4, y5, y6, y7, y8], _ =>
    have h0 : DataW.trod enc Try.prog W base spare held n 3 ((cs.drop 0).take (Try.prog.cellsOf 3)) = some y0 := by simpa using hfs 0 _ rfl
    have h1 : DataW.trod enc Try.prog W base spare held n 9 ((cs.drop 1).take (Try.prog.cellsOf 9)) = some y1 := by simpa using hfs 1 _ rfl
    have h2 : DataW.trod enc Try.prog W base spare held n 3 ((cs.drop 2).take (Try.prog.cellsOf 3)) = some y2 := by simpa using hfs 2 _ rfl
    have h3 : DataW.trod enc Try.prog W base spare held n 3 ((cs.drop 3).take (Try.prog.cellsOf 3)) = some y3 := by simpa using hfs 3 _ rfl
    have h4 : DataW.trod enc Try.prog W base spare held n 3 ((cs.drop 4).take (Try.prog.cellsOf 3)) = some y4 := by simpa using hfs 4 _ rfl
    have h5 : DataW.trod enc Try.prog W base spare held n 59 ((cs.drop 5).take (Try.prog.cellsOf 59)) = some y5 := by simpa using hfs 5 _ rfl
    have h6 : DataW.trod enc Try.prog W base spare held n 60 ((cs.drop 16).take (Try.prog.cellsOf 60)) = some y6 := by simpa using hfs 6 _ rfl
    have h7 : DataW.trod enc Try.prog W base spare held n 23 ((cs.drop 17).take (Try.prog.cellsOf 23)) = some y7 := by simpa using hfs 7 _ rfl
    have h8 : DataW.trod enc Try.prog W base spare held n 61 ((cs.drop 18).take (Try.prog.cellsOf 61)) = some y8 := by simpa using hfs 8 _ rfl
    rw [cells3] at h0 h2 h3 h4
    rw [cells9] at h1
    rw [cells59] at h5
    rw [cells60] at h6
    rw [cells23] at h7
    rw [cells61] at h8
    subst hxe
    have fit : ∀ (j : Nat) (t : TypeId) (z : DataW H × List MemPlace), [y0, y1, y2, y3, y4, y5, y6, y7, y8][j]? = some z → [3, 9, 3, 3, 3, 59, 60, 23, 61][j]? = some t → Fit t z.1 := fun j t z hz ht m hm => hf m (by
      simp only [DataW.weights, Try.underlying63]
      refine DataW.weights_mem_each (j := j) (t := t) ?_ ?_ m hm
      · simpa using ht
      · rw [List.getElem?_map, hz]; rfl)
    match cs, hl with
    | [c0, c1, c2, c3, c4, c5, c6, c7, c8, c9, c10, c11, c12, c13, c14, c15, c16, c17, c18], _ =>
      obtain ⟨k0, e0, _⟩ := DataW.trod_int Try.underlying3 h0
      obtain ⟨s, e1, hs⟩ := open_cell_str h1 (fit 1 _ _ rfl rfl)
      obtain ⟨k2, e2, _⟩ := DataW.trod_int Try.underlying3 h2
      obtain ⟨k3, e3, _⟩ := DataW.trod_int Try.underlying3 h3
      obtain ⟨k4, e4, _⟩ := DataW.trod_int Try.underlying3 h4
      obtain ⟨v, e5, hv⟩ := open_val h5 (fit 5 _ _ rfl rfl)
      obtain ⟨l, hl6⟩ := open_ints (v := c16) h6 (fit 6 _ _ rfl rfl)
      have f7 := open_form Try.underlying23 (v := c17) h7
      have f8 := open_form Try.underlying61 (v := c18) h8
      simp [str1, Vl.cells] at e0 e1 e2 e3 e4 e5
      obtain ⟨g0, g1, g2, g3, g4, g5, g6, g7, g8, g9, g10⟩ := e5
      subst e0 e1 e2 e3 e4 g0 g1 g2 g3 g4 g5 g6 g7 g8 g9 g10
      exact ⟨(⟨k0, s, k2, k3, k4, v, c16, c17, c18⟩, l), rfl, by show s.size ≤ maxLen; unfold maxLen; omega, by show v.s.size ≤ _; omega, hl6, f7, f8⟩
theorem open_nodes {fuel : Nat} {v : Value} {y : DataW H × List MemPlace} (h : DataW.trod enc Try.prog W base spare held fuel 24 [v] = some y) (hf : Fit 24 y.1) : ∃ ns, Qn (fun k => k < W.heap.size) W v ns := by
  obtain ⟨xs, hx, hg, hb⟩ := open_sl (α := Nd × List Int) (en := fun x => x.1.cells) (k := 19) (Good := GoodN W) Try.underlying24 cells63 (by decide) (fun _ => rfl) (fun n cs y h hf => open_node h hf) h hf
  rw [bytes63] at hb
  exact ⟨xs, hx, hg, by omega⟩
theorem open_query {r : Reach} {b0 : Nat} {v : Value} {d0 : DataW H} {p : List MemPlace} (hv : Value.okWide Try.prog W r b0 26 v) (h : DataW.Trod enc Try.prog W base spare held 26 v d0 p) (hf : Fit 26 d0) : ∃ qv ns, v = .agg #[qv] ∧ Qn (fun k => k < W.heap.size) W qv ns := by
  simp only [Value.okWide, Try.underlying26] at hv
  obtain ⟨cs, rfl, hsz, _⟩ := hv
  obtain ⟨fuel, hfu⟩ := h
  obtain ⟨y0, n, hx, hl, h0⟩ := trod_struct1 Try.underlying26 hfu
  replace h0 : DataW.trod enc Try.prog W base spare held n 24 (((Value.agg cs).cells.toList.drop 0).take (Try.prog.cellsOf 24)) = some y0 := h0
  rw [cells24] at h0
  obtain ⟨l⟩ := cs
  have hl1 : l.length = 1 := by
    have : Try.prog.cellsOf 26 = 1 := by kernel_rfl
    rw [this] at hl
    simpa [Value.cells] using hl
  match l, hl1 with
  | [c0], _ =>
    have e : d0 = .agg [y0.1] := (Prod.mk.inj hx).1
    subst e
    have f0 : Fit 24 y0.1 := fun m hm => hf m (by simp only [DataW.weights, Try.underlying26]; exact DataW.weights_mem_each (j := 0) (t := 24) rfl rfl m hm)
    obtain ⟨ns, hq⟩ := open_nodes (v := c0) (by simpa [Value.cells] using h0) f0
    exact ⟨c0, ns, rfl, hq⟩
set_option maxRecDepth 100000 in
theorem fit_of {ts : List TypeId} {ds : List (DataW H)} (h : (DataW.weightsEach Try.prog ts ds).all (· ≤ reachBytes) = true) {j : Nat} {t : TypeId} {d : DataW H} (ht : ts[j]? = some t) (hd : ds[j]? = some d) : Fit t d := fun n hn => by
  exact of_decide_eq_true (List.all_eq_true.1 h n (DataW.weights_mem_each ht hd n hn))
end
end Go.Proofs.Ytmkilckoeaekkaa
