/-
  What the listed variables give the walks: the table of signs, and the variable ErrRange.
-/
import Derived.Test.YtomnjckbgmbgmaaGreatDoorTie
import Derived.Test.YtomnjckbgmbgmaaGreatDoorRows
import Derived.Test.YtomnjckbgmbgmaaGreatDoorQNum
import Derived.ProofKit
import Derived.LaidMore
import Derived.OpenShut
import Derived.Stop.Joined
import Derived.Lib.LaidTab
namespace Go.Proofs.YtomnjckbgmbgmaaGreatDoor
open Go.ChangeShapes Go.WideShapes Go.ChangeAt Go.WideMaps Go.WideElems Go.RowKit

theorem own : ownKnob Tryz.prog.godebug = none := by kernel_rfl
theorem laidOut : laidOutB Tryz.prog = true := by kernel_rfl
abbrev laid6 : List (String × DataW Unit) := [("math/bits.deBruijn32tab", Rows.laid_math_bits_deBruijn32tab), ("math/bits.deBruijn64tab", Rows.laid_math_bits_deBruijn64tab), ("internal/strconv.uint64pow10", Rows.laid_internal_strconv_uint64pow10), ("strconv.ErrRange", Rows.laid_strconv_ErrRange), ("strconv.ErrSyntax", Rows.laid_strconv_ErrSyntax), ("catchment/lex.signs", Rows.laid_catchment_lex_signs)]
theorem gTab : Tryz.prog.globalNamed "math/bits.deBruijn64tab" = some 8 := by kernel_rfl
theorem gErr : Tryz.prog.globalNamed "strconv.ErrRange" = some 5 := by kernel_rfl
theorem tErr : (Tryz.prog.globals[5]?).map (·.type) = some 132 := by kernel_rfl
theorem gSig : Tryz.prog.globalNamed "catchment/lex.signs" = some 0 := by kernel_rfl
theorem tSig : (Tryz.prog.globals[0]?).map (·.type) = some 135 := by kernel_rfl
theorem cells9 : Tryz.prog.cellsOf 9 = 1 := by kernel_rfl
theorem cells51 : Tryz.prog.cellsOf 135 = 11 := by kernel_rfl
theorem door_met (os : Os) (args : Array Value) : laidMetH Tryz.prog laid6 ((World.doorLaid Tryz.prog 175 os).forCall (fun _ _ => 0) ⟨#[], args, []⟩).memory :=
  laidMetH_of_parts3 (fuel := 8) (laidMet_of_run' 8 (by kernel_rfl) (by kernel_rfl)) (by kernel_rfl) (by kernel_rfl)
theorem sig_cells {m : Nat} {W : World} {cs : List Value} {p : List MemPlace} {base : Nat} {sp : Nat → Bool} {held : Bool} {enc : TypeId × Value → Unit} (h : DataW.trod enc Tryz.prog W base sp held m 135 cs = some (Rows.laid_catchment_lex_signs, p)) :
    cs = signsL.map (fun s => Value.string (St s)) := by
  obtain ⟨xs, m1, hx0, hx1, hlen, hn, hel⟩ := DataW.trod_array Tryz.underlying135 h
  rw [cells51] at hlen
  rw [cells9] at hel
  match cs, hlen with
  | [c0, c1, c2, c3, c4, c5, c6, c7, c8, c9, c10], _ =>
    match xs, hn with
    | [x0, x1, x2, x3, x4, x5, x6, x7, x8, x9, x10], _ =>
      simp only [Rows.laid_catchment_lex_signs, Prod.mk.injEq, DataW.agg.injEq, List.map_cons, List.map_nil, List.cons.injEq, and_true] at hx1
      obtain ⟨⟨h0, h1, h2, h3, h4, h5, h6, h7, h8, h9, h10⟩, -⟩ := hx1
      obtain ⟨s0, e0, f0, _⟩ := DataW.trod_string Tryz.underlying9 (show DataW.trod enc Tryz.prog W base sp held m1 9 _ = some x0 from hel 0 (by decide))
      obtain ⟨s1, e1, f1, _⟩ := DataW.trod_string Tryz.underlying9 (show DataW.trod enc Tryz.prog W base sp held m1 9 _ = some x1 from hel 1 (by decide))
      obtain ⟨s2, e2, f2, _⟩ := DataW.trod_string Tryz.underlying9 (show DataW.trod enc Tryz.prog W base sp held m1 9 _ = some x2 from hel 2 (by decide))
      obtain ⟨s3, e3, f3, _⟩ := DataW.trod_string Tryz.underlying9 (show DataW.trod enc Tryz.prog W base sp held m1 9 _ = some x3 from hel 3 (by decide))
      obtain ⟨s4, e4, f4, _⟩ := DataW.trod_string Tryz.underlying9 (show DataW.trod enc Tryz.prog W base sp held m1 9 _ = some x4 from hel 4 (by decide))
      obtain ⟨s5, e5, f5, _⟩ := DataW.trod_string Tryz.underlying9 (show DataW.trod enc Tryz.prog W base sp held m1 9 _ = some x5 from hel 5 (by decide))
      obtain ⟨s6, e6, f6, _⟩ := DataW.trod_string Tryz.underlying9 (show DataW.trod enc Tryz.prog W base sp held m1 9 _ = some x6 from hel 6 (by decide))
      obtain ⟨s7, e7, f7, _⟩ := DataW.trod_string Tryz.underlying9 (show DataW.trod enc Tryz.prog W base sp held m1 9 _ = some x7 from hel 7 (by decide))
      obtain ⟨s8, e8, f8, _⟩ := DataW.trod_string Tryz.underlying9 (show DataW.trod enc Tryz.prog W base sp held m1 9 _ = some x8 from hel 8 (by decide))
      obtain ⟨s9, e9, f9, _⟩ := DataW.trod_string Tryz.underlying9 (show DataW.trod enc Tryz.prog W base sp held m1 9 _ = some x9 from hel 9 (by decide))
      obtain ⟨s10, e10, f10, _⟩ := DataW.trod_string Tryz.underlying9 (show DataW.trod enc Tryz.prog W base sp held m1 9 _ = some x10 from hel 10 (by decide))
      rw [f0] at h0
      rw [f1] at h1
      rw [f2] at h2
      rw [f3] at h3
      rw [f4] at h4
      rw [f5] at h5
      rw [f6] at h6
      rw [f7] at h7
      rw [f8] at h8
      rw [f9] at h9
      rw [f10] at h10
      simp at e0 e1 e2 e3 e4 e5 e6 e7 e8 e9 e10
      simp only [DataW.lit.injEq, Lit.string.injEq] at h0 h1 h2 h3 h4 h5 h6 h7 h8 h9 h10
      have k0 := St_of s0
      rw [← h0] at k0
      have k1 := St_of s1
      rw [← h1] at k1
      have k2 := St_of s2
      rw [← h2] at k2
      have k3 := St_of s3
      rw [← h3] at k3
      have k4 := St_of s4
      rw [← h4] at k4
      have k5 := St_of s5
      rw [← h5] at k5
      have k6 := St_of s6
      rw [← h6] at k6
      have k7 := St_of s7
      rw [← h7] at k7
      have k8 := St_of s8
      rw [← h8] at k8
      have k9 := St_of s9
      rw [← h9] at k9
      have k10 := St_of s10
      rw [← h10] at k10
      rw [e0, e1, e2, e3, e4, e5, e6, e7, e8, e9, e10]
      rw [← k0, ← k1, ← k2, ← k3, ← k4, ← k5, ← k6, ← k7, ← k8, ← k9, ← k10]
      rfl
theorem gd_of_laid {W : World} (h : laidMetH Tryz.prog laid6 W) : Gd W := by
  rw [MakeChecks.laidMetH_plain _ _ _ (by kernel_rfl)] at h
  obtain ⟨ps, ⟨g0, t0, cs0, f0, p0, q0, hg0, ht0, hv0, hd0, ⟨g1, t1, cs1, f1, p1, q1, hg1, ht1, hv1, hd1, ⟨g2, t2, cs2, f2, p2, q2, hg2, ht2, hv2, hd2, ⟨g3, t3, cs3, f3, p3, q3, hg3, ht3, hv3, hd3, ⟨g4, t4, cs4, f4, p4, q4, hg4, ht4, hv4, hd4, ⟨g5, t5, cs5, f5, p5, q5, hg5, ht5, hv5, hd5, _, _⟩, _⟩, _⟩, _⟩, _⟩, _⟩, _, _⟩ := h
  obtain rfl := Option.some.inj (gErr.symm.trans hg3)
  obtain rfl := Option.some.inj (tErr.symm.trans ht3)
  obtain rfl := Option.some.inj (gSig.symm.trans hg5)
  obtain rfl := Option.some.inj (tSig.symm.trans ht5)
  have hcs := sig_cells hd5
  have hcell := fun i => World.var?_cell gSig hv5 i
  have h6 : 9 ≤ W.heap.size := by
    simp only [World.var?, gTab, Option.bind_some] at hv1
    split at hv1
    · rename_i heq
      have := lt_of_block heq; omega
    · cases hv1
  refine ⟨⟨by omega, fun i hi => ?_⟩, h6, ?_⟩
  · rw [hcell i, ← Array.getElem?_toList, hcs, List.getElem?_map, List.getD_eq_getElem?_getD, List.getElem?_eq_getElem (show i < signsL.length from hi)]
    rfl
  · obtain ⟨m, u, v, hcs3, -, -⟩ := iface_of_trod Tryz.underlying132 hd3
    refine ⟨.iface u v, ?_, .inr ⟨u, v, rfl⟩⟩
    rw [World.var?_cell gErr hv3 0, ← Array.getElem?_toList, hcs3]; rfl
def Ok64 (n : Int) : Prop := -9223372036854775808 ≤ n ∧ n ≤ 9223372036854775807
theorem ok64_of {n : Int} (h : (Lit.int .i64 n).wf = true) : Ok64 n := by
  have e1 : IntKind.i64.min = -9223372036854775808 := rfl
  have e2 : IntKind.i64.max = 9223372036854775807 := rfl
  simp [Lit.wf, e1, e2] at h
  exact h
end Go.Proofs.YtomnjckbgmbgmaaGreatDoor
