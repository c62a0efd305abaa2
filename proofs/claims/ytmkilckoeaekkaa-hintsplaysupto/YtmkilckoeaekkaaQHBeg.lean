/-
  How HintsPlays begins: the four indexes new; a query whose texts are short enough for the reference.
-/
import Derived.Test.YtmkilckoeaekkaaQHOpen
namespace Go.Proofs.Ytmkilckoeaekkaa
open Go.ChangeShapes Go.WideShapes Go.ChangeAt Go.WideMaps Go.WideElems Go.RowKit Go.Joins Go.Sort Go.Maps Go.Shelf

theorem rk_new {B : Nat} {w : World} (hB : B ≤ w.heap.size) : Rk B (w.alloc (.cells #[.slice none 0 0] 33)) w.heap.size (.slice none 0 0) [] := ⟨hB, alloc_block _ _, Own.nil _ _ _ _ _⟩
theorem tr_new {b k : Nat} (h : Tr b (.slice none 0 0) k) : k = b := by
  rcases h with h | h
  · exact h
  · simp [Value.ownBlock] at h
theorem tie_start {w0 w : World} {bx bo : Nat} (h : Fx w0 [⟨0, bx, Ix.none⟩, ⟨0, bo, Ix.none⟩] w) :
    Tie w0 0 0 bx bo w.heap.size (w.alloc (.cells #[.slice none 0 0] 33)).heap.size [] [] ((w.alloc (.cells #[.slice none 0 0] 33)).alloc (.cells #[.slice none 0 0] 33)) := by
  have hB := h.bel.size
  have b1 : Below w.heap.size w (w.alloc (.cells #[.slice none 0 0] 33)) := (Below.refl _ _).alloc (Nat.le_refl _) _
  have r1 := rk_new hB
  have hz : w.heap.size < (w.alloc (.cells #[.slice none 0 0] 33)).heap.size := by simp
  generalize w.alloc (.cells #[.slice none 0 0] 33) = w1 at *
  have b2 : Below w1.heap.size w1 (w1.alloc (.cells #[.slice none 0 0] 33)) := (Below.refl _ _).alloc (Nat.le_refl _) _
  have r2 := rk_new (B := w0.heap.size) (w := w1) (by omega)
  have f := (h.on b1).on b2
  generalize w1.alloc (.cells #[.slice none 0 0] 33) = w2 at *
  obtain ⟨Ts, f1, f2, f3⟩ := f
  refine ⟨⟨Ts 0, Ts 1, .slice none 0 0, .slice none 0 0, f1 0 _ rfl, f1 1 _ rfl, f2 0 1 (by decide) (by simp) (by simp), r1.on b2, r2, fun k h1 h2 => ?_, f3⟩, List.Pairwise.nil, List.Pairwise.nil⟩
  have e1 := tr_new h1
  have e2 := tr_new h2
  omega
section
variable {H : Type} {enc : TypeId × Value → H} {W : World} {base : Nat} {spare : Nat → Bool} {held : Bool}
set_option maxRecDepth 100000 in
theorem open_node2 {m : Nat} {cs : List Value} {y : DataW H × List MemPlace} (h : DataW.trod enc Try.prog W base spare held m 63 cs = some y) (hf : Fit 63 y.1) : ∃ x : Nd × List Int, cs = x.1.cells ∧ GoodN W x ∧ x.1.s.size ≤ 562949953421312 := by
  obtain ⟨x, rfl, hg⟩ := open_node h hf
  refine ⟨x, rfl, hg, ?_⟩
  obtain ⟨xs, n, _, hxe, hl, hlen, hfs⟩ := DataW.trod_struct Try.underlying63 h
  match xs, hlen with
  | [y0, y1, y2, y3, y4, y5, y6, y7, y8], _ =>
    have h1 : DataW.trod enc Try.prog W base spare held n 9 ((x.1.cells.drop 1).take (Try.prog.cellsOf 9)) = some y1 := by simpa using hfs 1 _ rfl
    rw [cells9] at h1
    subst hxe
    have f1 : Fit 9 y1.1 := fun m hm => hf m (by simp only [DataW.weights, Try.underlying63]; exact DataW.weights_mem_each (j := 1) (t := 9) rfl rfl m hm)
    obtain ⟨s, e1, hs⟩ := open_cell_str h1 f1
    have e : x.1.s = s := by simpa [Nd.cells, str1] using e1
    rw [e]; omega
theorem open_nodes2 {fuel : Nat} {v : Value} {y : DataW H × List MemPlace} (h : DataW.trod enc Try.prog W base spare held fuel 24 [v] = some y) (hf : Fit 24 y.1) : ∃ ns, Qn (fun k => k < W.heap.size) W v ns ∧ ∀ y ∈ ns, y.1.s.size ≤ 562949953421312 := by
  obtain ⟨xs, hx, hg, hb⟩ := open_sl (α := Nd × List Int) (en := fun x => x.1.cells) (k := 19) (Good := fun x => GoodN W x ∧ x.1.s.size ≤ 562949953421312) Try.underlying24 cells63 (by decide) (fun _ => rfl) (fun n cs y h hf => open_node2 h hf) h hf
  rw [bytes63] at hb
  exact ⟨xs, ⟨hx, fun x hx => (hg x hx).1, by omega⟩, fun x hx => (hg x hx).2⟩
theorem open_query2 {r : Reach} {b0 : Nat} {v : Value} {d0 : DataW H} {p : List MemPlace} (hv : Value.okWide Try.prog W r b0 26 v) (h : DataW.Trod enc Try.prog W base spare held 26 v d0 p) (hf : Fit 26 d0) : ∃ qv ns, v = .agg #[qv] ∧ Qn (fun k => k < W.heap.size) W qv ns ∧ ∀ y ∈ ns, y.1.s.size ≤ 562949953421312 := by
  simp only [Value.okWide, Try.underlying26] at hv
  obtain ⟨cs, rfl, hsz, _⟩ := hv
  obtain ⟨fuel, hfu⟩ := h
  obtain ⟨y0, n, hx, hl, h0⟩ := trod_struct1 Try.underlying26 hfu
  replace h0 : DataW.trod enc Try.prog W base spare held n 24 (((Value.agg cs).cells.toList.drop 0).take (Try.prog.cellsOf 24)) = some y0 := h0
  rw [cells24] at h0
  obtain ⟨l⟩ := cs
  have hl1 : l.length = 1 := by
    have : Try.prog.cellsOf 26 = 1 := by kernel_rfl
    rw [this] at hl
    simpa [Value.cells] using hl
  match l, hl1 with
  | [c0], _ =>
    have e : d0 = .agg [y0.1] := (Prod.mk.inj hx).1
    subst e
    have f0 : Fit 24 y0.1 := fun m hm => hf m (by simp only [DataW.weights, Try.underlying26]; exact DataW.weights_mem_each (j := 0) (t := 24) rfl rfl m hm)
    obtain ⟨ns, hq, hz⟩ := open_nodes2 (v := c0) (by simpa [Value.cells] using h0) f0
    exact ⟨c0, ns, rfl, hq, hz⟩
end
end Go.Proofs.Ytmkilckoeaekkaa
