/-
  A row of ops opened: its kinds, its schemas, its points.
-/
import Derived.Test.YtmkilckoeaekkaaQHLaid
import Derived.Test.YtmkilckoeaekkaaQHPl2
import Derived.Deep.Strs
namespace Go.Proofs.Ytmkilckoeaekkaa
open Go.ChangeShapes Go.WideShapes Go.ChangeAt Go.WideMaps Go.WideElems Go.RowKit Go.Joins

theorem cells35 : Try.prog.cellsOf 35 = 1 := by kernel_rfl
theorem cells38 : Try.prog.cellsOf 38 = 1 := by kernel_rfl
theorem cells37 : Try.prog.cellsOf 37 = 3 := by kernel_rfl
theorem cells40 : Try.prog.cellsOf 40 = 4 := by kernel_rfl
theorem cells42 : Try.prog.cellsOf 42 = 8 := by kernel_rfl
theorem cells75 : Try.prog.cellsOf 75 = 2 := by kernel_rfl
structure Oc where
  k : Int
  nm : ByteArray
  ks : Value
  vs : Value
  sc : ByteArray
  pk : Value
  t : Int
  pv : Value
  kc : List Cl
  vc : List Cl
  kv : List Vl
  vv : List Vl
def Oc.cells (x : Oc) : List Value := [.int .i64 x.k, .string x.nm, x.ks, x.vs, .string x.sc, x.pk, .int .i64 x.t, x.pv]
instance : Inhabited Cl := ⟨⟨⟨#[]⟩, 0⟩⟩
instance : Inhabited Vl := ⟨⟨0, 0, ⟨#[]⟩, 0, 0, 0, 0, 0, 0, 0, 0⟩⟩
instance : Inhabited Oc := ⟨⟨0, ⟨#[]⟩, .slice none 0 0, .slice none 0 0, ⟨#[]⟩, .slice none 0 0, 0, .slice none 0 0, [], [], [], []⟩⟩
/- An op whose schema and point lie below. -/
structure GoodO (W : World) (x : Oc) : Prop where
  k : Ok64 x.k
  nm : x.nm.size ≤ 281474976710656
  ar : Ar (fun k => k < W.heap.size) W x.ks x.vs x.pk x.pv x.kc x.vc x.kv x.vv
  n1 : x.kc.length * Try.prog.bytesOf 75 ≤ 140737488355328
  n2 : x.vc.length * Try.prog.bytesOf 75 ≤ 140737488355328
section
variable {H : Type} {enc : TypeId × Value → H} {W : World} {base : Nat} {spare : Nat → Bool} {held : Bool}
theorem open_col {m : Nat} {cs : List Value} {y : DataW H × List MemPlace} (h : DataW.trod enc Try.prog W base spare held m 75 cs = some y) (hf : Fit 75 y.1) : ∃ x : Cl, cs = x.cells ∧ x.nm.size ≤ 281474976710656 := by
  obtain ⟨y0, y1, n, hx, hl, h0, h1⟩ := trod_struct2 Try.underlying75 h
  rw [cells75] at hl
  replace h0 : DataW.trod enc Try.prog W base spare held n 9 ((cs.drop 0).take (Try.prog.cellsOf 9)) = some y0 := h0
  replace h1 : DataW.trod enc Try.prog W base spare held n 3 ((cs.drop 1).take (Try.prog.cellsOf 3)) = some y1 := h1
  rw [cells9] at h0
  rw [cells3] at h1
  subst hx
  have f0 : Fit 9 y0.1 := fun m hm => hf m (by simp only [DataW.weights, Try.underlying75]; exact DataW.weights_mem_each (j := 0) (t := 9) rfl rfl m hm)
  match cs, hl with
  | [c0, c1], _ =>
    obtain ⟨s, e0, hs⟩ := open_cell_str h0 f0
    obtain ⟨k, e1, _⟩ := DataW.trod_int Try.underlying3 h1
    simp [str1] at e0 e1
    subst e0 e1
    exact ⟨⟨s, k⟩, rfl, hs⟩
theorem open_cols {fuel : Nat} {v : Value} {y : DataW H × List MemPlace} (h : DataW.trod enc Try.prog W base spare held fuel 35 [v] = some y) (hf : Fit 35 y.1) : ∃ l, SlAt (fun b => b < W.heap.size) Cl.cells 2 W v l ∧ (∀ c ∈ l, c.nm.size ≤ 281474976710656) ∧ l.length * Try.prog.bytesOf 75 ≤ 140737488355328 :=
  open_sl (α := Cl) (en := Cl.cells) (k := 2) (Good := fun c => c.nm.size ≤ 281474976710656) Try.underlying35 cells75 (by decide) (fun _ => rfl) (fun n cs y h hf => open_col h hf) h hf
theorem open_vals {fuel : Nat} {v : Value} {y : DataW H × List MemPlace} (h : DataW.trod enc Try.prog W base spare held fuel 38 [v] = some y) (hf : Fit 38 y.1) : ∃ l, SlAt (fun b => b < W.heap.size) Vl.cells 11 W v l ∧ (∀ c ∈ l, c.s.size ≤ 281474976710656) := by
  obtain ⟨l, h1, h2, _⟩ := open_sl (α := Vl) (en := Vl.cells) (k := 11) (Good := fun c => c.s.size ≤ 281474976710656) Try.underlying38 cells59 (by decide) (fun _ => rfl) (fun n cs y h hf => open_val h hf) h hf
  exact ⟨l, h1, h2⟩
set_option maxRecDepth 100000 in
set_option maxHeartbeats 1000000 in
theorem open_op {m : Nat} {cs : List Value} {y : DataW H × List MemPlace} (h : DataW.trod enc Try.prog W base spare held m 42 cs = some y) (hf : Fit 42 y.1) : ∃ x : Oc, cs = x.cells ∧ GoodO W x := by
  obtain ⟨y0, y1, y2, n, hx, hl, h0, h1, h2⟩ := Deep.trod_struct3 Try.underlying42 h
  rw [cells42] at hl
  replace h0 : DataW.trod enc Try.prog W base spare held n 3 ((cs.drop 0).take (Try.prog.cellsOf 3)) = some y0 := h0
  replace h1 : DataW.trod enc Try.prog W base spare held n 37 ((cs.drop 1).take (Try.prog.cellsOf 37)) = some y1 := h1
  replace h2 : DataW.trod enc Try.prog W base spare held n 40 ((cs.drop 4).take (Try.prog.cellsOf 40)) = some y2 := h2
  rw [cells3] at h0
  rw [cells37] at h1
  rw [cells40] at h2
  subst hx
  have f1 : Fit 37 y1.1 := fun m hm => hf m (by simp only [DataW.weights, Try.underlying42]; exact DataW.weights_mem_each (j := 1) (t := 37) rfl rfl m hm)
  have f2 : Fit 40 y2.1 := fun m hm => hf m (by simp only [DataW.weights, Try.underlying42]; exact DataW.weights_mem_each (j := 2) (t := 40) rfl rfl m hm)
  obtain ⟨a0, a1, a2, na, hxa, hla, g0, g1, g2⟩ := Deep.trod_struct3 Try.underlying37 h1
  obtain ⟨p0, p1, p2, p3, np, hxp, hlp, q0, q1, q2, q3⟩ := trod_struct4 Try.underlying40 h2
  subst hxa hxp
  match cs, hl with
  | [c0, c1, c2, c3, c4, c5, c6, c7], _ =>
    replace g0 : DataW.trod enc Try.prog W base spare held na 9 (([c1, c2, c3].drop 0).take (Try.prog.cellsOf 9)) = some a0 := g0
    replace g1 : DataW.trod enc Try.prog W base spare held na 35 (([c1, c2, c3].drop 1).take (Try.prog.cellsOf 35)) = some a1 := g1
    replace g2 : DataW.trod enc Try.prog W base spare held na 35 (([c1, c2, c3].drop 2).take (Try.prog.cellsOf 35)) = some a2 := g2
    replace q0 : DataW.trod enc Try.prog W base spare held np 9 (([c4, c5, c6, c7].drop 0).take (Try.prog.cellsOf 9)) = some p0 := q0
    replace q1 : DataW.trod enc Try.prog W base spare held np 38 (([c4, c5, c6, c7].drop 1).take (Try.prog.cellsOf 38)) = some p1 := q1
    replace q2 : DataW.trod enc Try.prog W base spare held np 3 (([c4, c5, c6, c7].drop 2).take (Try.prog.cellsOf 3)) = some p2 := q2
    replace q3 : DataW.trod enc Try.prog W base spare held np 38 (([c4, c5, c6, c7].drop 3).take (Try.prog.cellsOf 38)) = some p3 := q3
    rw [cells9] at g0 q0
    rw [cells35] at g1 g2
    rw [cells38] at q1 q3
    rw [cells3] at q2
    have fa : ∀ (j : Nat) (t : TypeId) (z : DataW H × List MemPlace), [a0, a1, a2][j]? = some z → [9, 35, 35][j]? = some t → Fit t z.1 := fun j t z hz ht m hm => f1 m (by
      simp only [DataW.weights, Try.underlying37]
      refine DataW.weights_mem_each (ds := [a0.1, a1.1, a2.1]) (j := j) (t := t) ?_ ?_ m hm
      · simpa using ht
      · rw [show [a0.1, a1.1, a2.1] = [a0, a1, a2].map (·.1) from rfl, List.getElem?_map, hz]; rfl)
    have fp : ∀ (j : Nat) (t : TypeId) (z : DataW H × List MemPlace), [p0, p1, p2, p3][j]? = some z → [9, 38, 3, 38][j]? = some t → Fit t z.1 := fun j t z hz ht m hm => f2 m (by
      simp only [DataW.weights, Try.underlying40]
      refine DataW.weights_mem_each (ds := [p0.1, p1.1, p2.1, p3.1]) (j := j) (t := t) ?_ ?_ m hm
      · simpa using ht
      · rw [show [p0.1, p1.1, p2.1, p3.1] = [p0, p1, p2, p3].map (·.1) from rfl, List.getElem?_map, hz]; rfl)
    obtain ⟨k, e0, _, wk⟩ := DataW.trod_int Try.underlying3 h0
    obtain ⟨nm, e1, hs1⟩ := open_cell_str g0 (fa 0 _ _ rfl rfl)
    obtain ⟨kc, x1, x1s, x1n⟩ := open_cols (v := c2) g1 (fa 1 _ _ rfl rfl)
    obtain ⟨vc, x3, x3s, x3n⟩ := open_cols (v := c3) g2 (fa 2 _ _ rfl rfl)
    obtain ⟨sc, e4, hs4⟩ := open_cell_str q0 (fp 0 _ _ rfl rfl)
    obtain ⟨kv, x2, x2s⟩ := open_vals (v := c5) q1 (fp 1 _ _ rfl rfl)
    obtain ⟨t, e6, _⟩ := DataW.trod_int Try.underlying3 q2
    obtain ⟨vv, x4, x4s⟩ := open_vals (v := c7) q3 (fp 3 _ _ rfl rfl)
    simp [str1] at e0 e1 e4 e6
    subst e0 e1 e4 e6
    exact ⟨⟨k, nm, c2, c3, sc, c5, t, c7, kc, vc, kv, vv⟩, rfl, ok64_of wk, hs1, ⟨x1, x2, x3, x4, fun c hc => Nat.le_trans (x1s c hc) (by decide), fun c hc => Nat.le_trans (x3s c hc) (by decide), fun c hc => Nat.le_trans (x2s c hc) (by decide), fun c hc => Nat.le_trans (x4s c hc) (by decide)⟩, x1n, x3n⟩
theorem open_ops {fuel : Nat} {v : Value} {y : DataW H × List MemPlace} (h : DataW.trod enc Try.prog W base spare held fuel 22 [v] = some y) (hf : Fit 22 y.1) : ∃ l, SlAt (fun b => b < W.heap.size) Oc.cells 8 W v l ∧ (∀ x ∈ l, GoodO W x) ∧ l.length * Try.prog.bytesOf 42 ≤ 140737488355328 :=
  open_sl (α := Oc) (en := Oc.cells) (k := 8) (Good := GoodO W) Try.underlying22 cells42 (by decide) (fun _ => rfl) (fun n cs y h hf => open_op h hf) h hf
end
end Go.Proofs.Ytmkilckoeaekkaa
