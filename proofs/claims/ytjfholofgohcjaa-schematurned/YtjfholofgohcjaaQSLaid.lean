/-
  Arguments of schema's statements opened as their types say.
-/
import Derived.Test.YtjfholofgohcjaaPS
import Derived.Test.YtjfholofgohcjaaQLaid
import Derived.Deep.Strs
namespace Go.Proofs.Ytjfholofgohcjaa
open Go.ChangeShapes Go.WideShapes Go.ChangeAt Go.WideMaps Go.WideElems Go.RowKit Go.Joins

theorem cells56 : Try.prog.cellsOf 56 = 3 := by kernel_rfl
theorem cells67 : Try.prog.cellsOf 67 = 4 := by kernel_rfl
theorem bytes56 : bsz 3 ≤ Try.prog.bytesOf 56 := by
  rw [show Try.prog.bytesOf 56 = 64 from by kernel_rfl]
  decide
section
variable {H : Type} {enc : TypeId × Value → H} {W : World} {base : Nat} {spare : Nat → Bool} {held : Bool}
instance : Inhabited (Sh × Sc) := ⟨(default, default)⟩
set_option maxRecDepth 100000 in
theorem open_sc {m : Nat} {cs : List Value} {y : DataW H × List MemPlace} (h : DataW.trod enc Try.prog W base spare held m 56 cs = some y) (hf : Fit 56 y.1) : ∃ x : Sh × Sc, cs = x.1.cells ∧ ShIs W x.1 x.2 := by
  obtain ⟨y0, y1, y2, n, hx, hl, h0, h1, h2⟩ := Go.Deep.trod_struct3 Try.underlying56 h
  rw [cells56] at hl
  replace h0 : DataW.trod enc Try.prog W base spare held n 9 ((cs.drop 0).take (Try.prog.cellsOf 9)) = some y0 := h0
  replace h1 : DataW.trod enc Try.prog W base spare held n 22 ((cs.drop 1).take (Try.prog.cellsOf 22)) = some y1 := h1
  replace h2 : DataW.trod enc Try.prog W base spare held n 22 ((cs.drop 2).take (Try.prog.cellsOf 22)) = some y2 := h2
  rw [cells9] at h0
  rw [cells22] at h1 h2
  cases hx
  match cs, hl with
  | [c0, c1, c2], _ =>
    have f1 : Fit 22 y1.1 := fun m hm => hf m (by simp only [DataW.weights, Try.underlying56]; exact DataW.weights_mem_each (j := 1) (t := 22) rfl rfl m hm)
    have f2 : Fit 22 y2.1 := fun m hm => hf m (by simp only [DataW.weights, Try.underlying56]; exact DataW.weights_mem_each (j := 2) (t := 22) rfl rfl m hm)
    obtain ⟨s, e0, _, w0⟩ := DataW.trod_string Try.underlying9 h0
    obtain ⟨ks, hk⟩ := open_cols h1 f1
    obtain ⟨vs, hv⟩ := open_cols h2 f2
    simp at e0
    subst e0
    exact ⟨(⟨s, c1, c2⟩, ⟨s, ks, vs, w0⟩), rfl, ⟨rfl, hk, hv⟩⟩
set_option maxRecDepth 100000 in
theorem open_schs {r : Reach} {b0 : Nat} {v : Value} {d : DataW H} {p : List MemPlace} (hv : Value.okWide Try.prog W r b0 54 v) (h : DataW.Trod enc Try.prog W base spare held 54 v d p) (hf : Fit 54 d) : ∃ l, SchsAt W v l := by
  obtain ⟨a0, len, cap0, rfl⟩ := okWide_slice Try.underlying54 hv
  obtain ⟨fuel, hfu⟩ := h
  obtain ⟨xs, ⟨p, cap, hv, hc, hm, hx⟩, hg⟩ := open_sl (α := Sh × Sc) (en := fun x => x.1.cells) (k := 3) (Good := fun x => ShIs W x.1 x.2) Try.underlying54 cells56 (by decide) (fun _ => rfl) bytes56 (fun n cs y h hf => open_sc h hf) hfu hf
  refine ⟨xs.map (·.2), xs.map (·.1), ⟨p, cap, by rw [List.length_map]; exact hv, by rw [List.length_map]; exact hc, by rw [List.length_map]; exact hm, fun hne => ?_⟩, by simp, fun j u r h1 h2 => ?_⟩
  · obtain ⟨b, o, hp, hQ, hj⟩ := hx (by intro e; subst e; simp at hne)
    refine ⟨b, o, hp, by rw [List.length_map]; exact hQ, fun j u hju => ?_⟩
    rw [List.getElem?_map] at hju
    cases hxj : xs[j]? with
    | none => rw [hxj] at hju; cases hju
    | some x => rw [hxj] at hju; cases hju; exact hj j x hxj
  · rw [List.getElem?_map] at h1 h2
    cases hxj : xs[j]? with
    | none => rw [hxj] at h1; cases h1
    | some x =>
      rw [hxj] at h1 h2
      cases h1; cases h2
      exact hg x (List.mem_of_getElem? hxj)
set_option maxRecDepth 100000 in
theorem open_pt {r : Reach} {b0 : Nat} {v : Value} {d : DataW H} {p : List MemPlace} (hv : Value.okWide Try.prog W r b0 67 v) (h : DataW.Trod enc Try.prog W base spare held 67 v d p) (hf : Fit 67 d) : ∃ x : Pt, PtAt W v x := by
  obtain ⟨cs, rfl, hsz⟩ := okWide_struct Try.underlying67 hv
  obtain ⟨fuel, hfu⟩ := h
  obtain ⟨y0, y1, y2, y3, n, hx, hl, h0, h1, h2, h3⟩ := trod_struct4 Try.underlying67 hfu
  rw [cells67] at hl
  obtain ⟨l⟩ := cs
  replace hl : l.length = 4 := hl
  replace h0 : DataW.trod enc Try.prog W base spare held n 9 ((l.drop 0).take (Try.prog.cellsOf 9)) = some y0 := h0
  replace h1 : DataW.trod enc Try.prog W base spare held n 65 ((l.drop 1).take (Try.prog.cellsOf 65)) = some y1 := h1
  replace h2 : DataW.trod enc Try.prog W base spare held n 3 ((l.drop 2).take (Try.prog.cellsOf 3)) = some y2 := h2
  replace h3 : DataW.trod enc Try.prog W base spare held n 65 ((l.drop 3).take (Try.prog.cellsOf 65)) = some y3 := h3
  rw [cells9] at h0
  rw [cells35] at h1 h3
  rw [cells3] at h2
  cases hx
  match l, hl with
  | [c0, c1, c2, c3], _ =>
    have f1 : Fit 65 y1.1 := fun m hm => hf m (by simp only [DataW.weights, Try.underlying67]; exact DataW.weights_mem_each (j := 1) (t := 65) rfl rfl m hm)
    have f3 : Fit 65 y3.1 := fun m hm => hf m (by simp only [DataW.weights, Try.underlying67]; exact DataW.weights_mem_each (j := 3) (t := 65) rfl rfl m hm)
    obtain ⟨s, e0, _, w0⟩ := DataW.trod_string Try.underlying9 h0
    obtain ⟨k, e2, _⟩ := DataW.trod_int Try.underlying3 h2
    obtain ⟨ks, hk⟩ := open_row h1 f1
    obtain ⟨vs, hv3⟩ := open_row h3 f3
    simp at e0 e2
    subst e0 e2
    exact ⟨⟨s, ks, k, vs, w0⟩, _, _, rfl, hk, hv3⟩
end
end Go.Proofs.Ytjfholofgohcjaa
