/-
  The arguments opened as their types say, and the table of the powers of ten read off the row's condition.
-/
import Derived.Test.YtjplnelffiegmaaDoorRows
import Derived.Test.YtjplnelffiegmaaDoorTie
import Derived.Test.YtjplnelffiegmaaDoorText
import Derived.ProofKit
import Derived.LaidMore
import Derived.OpenShut
import Derived.Stop.Joined
import Derived.Lib.LaidTab
namespace Go.Proofs.YtjplnelffiegmaaDoor
open Go.ChangeShapes Go.WideShapes Go.ChangeAt Go.WideMaps Go.WideElems Go.RowKit Go.Joins

theorem own : ownKnob Tryd.prog.godebug = none := by kernel_rfl
theorem laidOut : laidOutB Tryd.prog = true := by kernel_rfl
abbrev laid3 : List (String × DataW Unit) := [("math/bits.deBruijn32tab", Rows.laid_math_bits_deBruijn32tab), ("math/bits.deBruijn64tab", Rows.laid_math_bits_deBruijn64tab), ("internal/strconv.uint64pow10", Rows.laid_internal_strconv_uint64pow10)]
theorem gPow : Tryd.prog.globalNamed "internal/strconv.uint64pow10" = some 0 := by kernel_rfl
theorem tPow : (Tryd.prog.globals[0]?).map (·.type) = some 64 := by kernel_rfl
theorem cells56 : Tryd.prog.cellsOf 56 = 1 := by kernel_rfl
theorem cells64 : Tryd.prog.cellsOf 64 = 20 := by kernel_rfl
theorem cells3 : Tryd.prog.cellsOf 3 = 1 := by kernel_rfl
theorem cells9 : Tryd.prog.cellsOf 9 = 1 := by kernel_rfl
theorem cells22 : Tryd.prog.cellsOf 22 = 8 := by kernel_rfl
theorem cells24 : Tryd.prog.cellsOf 24 = 11 := by kernel_rfl
/- The door's own heap meets the condition. -/
theorem door_met (os : Os) (args : Array Value) : laidMetH Tryd.prog laid3 ((World.doorLaid Tryd.prog 24 os).forCall (fun _ _ => 0) ⟨#[], args, []⟩).memory :=
  laidMetH_of_parts3 (fuel := 8) (laidMet_of_run' 8 (by kernel_rfl) (by kernel_rfl)) (by kernel_rfl) (by kernel_rfl)
/- What the condition gives the walks: the table of the powers of ten. -/
theorem tab_of_laid {W : World} (h : laidMetH Tryd.prog laid3 W) : Tab W := by
  rw [MakeChecks.laidMetH_plain _ _ _ (by kernel_rfl)] at h
  obtain ⟨ps, ⟨g0, t0, cs0, f0, p0, q0, hg0, ht0, hv0, hd0, ⟨g1, t1, cs1, f1, p1, q1, hg1, ht1, hv1, hd1, ⟨g2, t2, cs2, f2, p2, q2, hg2, ht2, hv2, hd2, _, _⟩, _⟩, _⟩, _, _⟩ := h
  obtain rfl := Option.some.inj (gPow.symm.trans hg2)
  obtain rfl := Option.some.inj (tPow.symm.trans ht2)
  unfold Tab Lib.TabIs
  rw [hv2, ← Lib.cells_of_tab Tryd.underlying64 Tryd.underlying56 cells56 cells64 hd2]

def Ok64 (n : Int) : Prop := -9223372036854775808 ≤ n ∧ n ≤ 9223372036854775807
theorem ok64_of {n : Int} (h : (Lit.int .i64 n).wf = true) : Ok64 n := by
  have e1 : IntKind.i64.min = -9223372036854775808 := rfl
  have e2 : IntKind.i64.max = 9223372036854775807 := rfl
  simp [Lit.wf, e1, e2] at h
  exact h
section
variable {H : Type} {enc : TypeId × Value → H} {w : World} {base : Nat} {spare : Nat → Bool} {held : Bool}
theorem open_cells8 {m : Nat} {cs : List Value} {y : DataW H × List MemPlace} (h : DataW.trod enc Tryd.prog w base spare held m 22 cs = some y) :
    ∃ a0 a1 a2 a3 a4 a5 a6 a7 : Int, cs = [.int .i64 a0, .int .i64 a1, .int .i64 a2, .int .i64 a3, .int .i64 a4, .int .i64 a5, .int .i64 a6, .int .i64 a7] ∧ Ok64 a0 ∧ Ok64 a1 ∧ Ok64 a2 ∧ Ok64 a3 ∧ Ok64 a4 ∧ Ok64 a5 ∧ Ok64 a6 ∧ Ok64 a7 := by
  obtain ⟨xs, m1, rfl, hx1, hlen, hn, hel⟩ := DataW.trod_array Tryd.underlying22 h
  rw [cells22] at hlen
  rw [cells3] at hel
  match cs, hlen with
  | [c0, c1, c2, c3, c4, c5, c6, c7], _ =>
    match xs, hn with
    | [x0, x1, x2, x3, x4, x5, x6, x7], _ =>
      obtain ⟨a0, e0, _, w0⟩ := DataW.trod_int Tryd.underlying3 (show DataW.trod enc Tryd.prog w base spare held m1 3 _ = some x0 from hel 0 (by decide))
      obtain ⟨a1, e1, _, w1⟩ := DataW.trod_int Tryd.underlying3 (show DataW.trod enc Tryd.prog w base spare held m1 3 _ = some x1 from hel 1 (by decide))
      obtain ⟨a2, e2, _, w2⟩ := DataW.trod_int Tryd.underlying3 (show DataW.trod enc Tryd.prog w base spare held m1 3 _ = some x2 from hel 2 (by decide))
      obtain ⟨a3, e3, _, w3⟩ := DataW.trod_int Tryd.underlying3 (show DataW.trod enc Tryd.prog w base spare held m1 3 _ = some x3 from hel 3 (by decide))
      obtain ⟨a4, e4, _, w4⟩ := DataW.trod_int Tryd.underlying3 (show DataW.trod enc Tryd.prog w base spare held m1 3 _ = some x4 from hel 4 (by decide))
      obtain ⟨a5, e5, _, w5⟩ := DataW.trod_int Tryd.underlying3 (show DataW.trod enc Tryd.prog w base spare held m1 3 _ = some x5 from hel 5 (by decide))
      obtain ⟨a6, e6, _, w6⟩ := DataW.trod_int Tryd.underlying3 (show DataW.trod enc Tryd.prog w base spare held m1 3 _ = some x6 from hel 6 (by decide))
      obtain ⟨a7, e7, _, w7⟩ := DataW.trod_int Tryd.underlying3 (show DataW.trod enc Tryd.prog w base spare held m1 3 _ = some x7 from hel 7 (by decide))
      simp at e0 e1 e2 e3 e4 e5 e6 e7
      subst e0 e1 e2 e3 e4 e5 e6 e7
      exact ⟨a0, a1, a2, a3, a4, a5, a6, a7, rfl, ok64_of w0, ok64_of w1, ok64_of w2, ok64_of w3, ok64_of w4, ok64_of w5, ok64_of w6, ok64_of w7⟩
theorem open22 {r : Reach} {b0 : Nat} {v : Value} {d : DataW H} {p : List MemPlace} (hv : Value.okWide Tryd.prog w r b0 22 v) (h : DataW.Trod enc Tryd.prog w base spare held 22 v d p) :
    ∃ a0 a1 a2 a3 a4 a5 a6 a7 : Int, v = H8 a0 a1 a2 a3 a4 a5 a6 a7 ∧ Ok64 a0 ∧ Ok64 a1 ∧ Ok64 a2 ∧ Ok64 a3 ∧ Ok64 a4 ∧ Ok64 a5 ∧ Ok64 a6 ∧ Ok64 a7 := by
  simp only [Value.okWide, Tryd.underlying22] at hv
  obtain ⟨cs, rfl, hsz, _⟩ := hv
  obtain ⟨fuel, hf⟩ := h
  obtain ⟨a0, a1, a2, a3, a4, a5, a6, a7, hcs, hok⟩ := open_cells8 hf
  refine ⟨a0, a1, a2, a3, a4, a5, a6, a7, ?_, hok⟩
  obtain ⟨l⟩ := cs
  simp [Value.cells] at hcs
  subst hcs; rfl
theorem open24 {r : Reach} {b0 : Nat} {v : Value} {d : DataW H} {p : List MemPlace} (hv : Value.okWide Tryd.prog w r b0 24 v) (h : DataW.Trod enc Tryd.prog w base spare held 24 v d p) :
    ∃ (k n : Int) (s : ByteArray) (a0 a1 a2 a3 a4 a5 a6 a7 : Int), v = V k n s a0 a1 a2 a3 a4 a5 a6 a7 ∧ Ok64 k ∧ Ok64 n ∧ s.size ≤ maxLen ∧ Ok64 a0 ∧ Ok64 a1 ∧ Ok64 a2 ∧ Ok64 a3 ∧ Ok64 a4 ∧ Ok64 a5 ∧ Ok64 a6 ∧ Ok64 a7 := by
  obtain ⟨cs, rfl, hsz⟩ := okWide_struct Tryd.underlying24 hv
  obtain ⟨fuel, hf⟩ := h
  obtain ⟨y0, y1, y2, y3, m, hx, hl, h0, h1, h2, h3⟩ := trod_struct4 Tryd.underlying24 hf
  rw [cells24] at hl
  obtain ⟨l⟩ := cs
  simp [Value.cells] at hl h0 h1 h2 h3
  rw [cells3] at h0 h1
  rw [cells9] at h2
  rw [cells22] at h3
  match l, hl with
  | [c0, c1, c2, c3, c4, c5, c6, c7, c8, c9, c10], _ =>
    obtain ⟨k, e0, _, w0⟩ := DataW.trod_int Tryd.underlying3 h0
    obtain ⟨n, e1, _, w1⟩ := DataW.trod_int Tryd.underlying3 h1
    obtain ⟨s, e2, _, w2⟩ := DataW.trod_string Tryd.underlying9 h2
    obtain ⟨a0, a1, a2, a3, a4, a5, a6, a7, e3, hok⟩ := open_cells8 h3
    simp at e0 e1 e2 e3
    obtain ⟨e3, e4, e5, e6, e7, e8, e9, e10⟩ := e3
    subst e0 e1 e2 e3 e4 e5 e6 e7 e8 e9 e10
    exact ⟨k, n, s, a0, a1, a2, a3, a4, a5, a6, a7, rfl, ok64_of w0, ok64_of w1, w2, hok⟩
end
end Go.Proofs.YtjplnelffiegmaaDoor
