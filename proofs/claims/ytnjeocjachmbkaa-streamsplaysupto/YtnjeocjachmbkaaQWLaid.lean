/-
  Arguments of wire's statements opened as their types say.
-/
import Derived.Test.YtnjeocjachmbkaaQLaid
import Derived.Test.YtnjeocjachmbkaaQVMath
namespace Go.Proofs.Ytnjeocjachmbkaa
open Go.ChangeShapes Go.WideShapes Go.ChangeAt Go.WideMaps Go.WideElems Go.RowKit Go.Joins

section
variable {H : Type} {enc : TypeId × Value → H} {W : World} {base : Nat} {spare : Nat → Bool} {held : Bool}
set_option maxRecDepth 100000 in
theorem open_cells8R {m : Nat} {cs : List Value} {y : DataW H × List MemPlace} (h : DataW.trod enc Try.prog W base spare held m 23 cs = some y) :
    ∃ a0 a1 a2 a3 a4 a5 a6 a7 : Int, cs = [.int .i64 a0, .int .i64 a1, .int .i64 a2, .int .i64 a3, .int .i64 a4, .int .i64 a5, .int .i64 a6, .int .i64 a7] ∧ Rg a0 ∧ Rg a1 ∧ Rg a2 ∧ Rg a3 ∧ Rg a4 ∧ Rg a5 ∧ Rg a6 ∧ Rg a7 := by
  obtain ⟨xs, m1, rfl, hx1, hlen, hn, hel⟩ := DataW.trod_array Try.underlying23 h
  rw [cells46] at hlen
  rw [cells3] at hel
  match cs, hlen with
  | [c0, c1, c2, c3, c4, c5, c6, c7], _ =>
    match xs, hn with
    | [x0, x1, x2, x3, x4, x5, x6, x7], _ =>
      obtain ⟨a0, e0, _, w0⟩ := DataW.trod_int Try.underlying3 (show DataW.trod enc Try.prog W base spare held m1 3 _ = some x0 from hel 0 (by decide))
      obtain ⟨a1, e1, _, w1⟩ := DataW.trod_int Try.underlying3 (show DataW.trod enc Try.prog W base spare held m1 3 _ = some x1 from hel 1 (by decide))
      obtain ⟨a2, e2, _, w2⟩ := DataW.trod_int Try.underlying3 (show DataW.trod enc Try.prog W base spare held m1 3 _ = some x2 from hel 2 (by decide))
      obtain ⟨a3, e3, _, w3⟩ := DataW.trod_int Try.underlying3 (show DataW.trod enc Try.prog W base spare held m1 3 _ = some x3 from hel 3 (by decide))
      obtain ⟨a4, e4, _, w4⟩ := DataW.trod_int Try.underlying3 (show DataW.trod enc Try.prog W base spare held m1 3 _ = some x4 from hel 4 (by decide))
      obtain ⟨a5, e5, _, w5⟩ := DataW.trod_int Try.underlying3 (show DataW.trod enc Try.prog W base spare held m1 3 _ = some x5 from hel 5 (by decide))
      obtain ⟨a6, e6, _, w6⟩ := DataW.trod_int Try.underlying3 (show DataW.trod enc Try.prog W base spare held m1 3 _ = some x6 from hel 6 (by decide))
      obtain ⟨a7, e7, _, w7⟩ := DataW.trod_int Try.underlying3 (show DataW.trod enc Try.prog W base spare held m1 3 _ = some x7 from hel 7 (by decide))
      simp at e0 e1 e2 e3 e4 e5 e6 e7
      subst e0 e1 e2 e3 e4 e5 e6 e7
      exact ⟨a0, a1, a2, a3, a4, a5, a6, a7, rfl, ok64_of w0, ok64_of w1, ok64_of w2, ok64_of w3, ok64_of w4, ok64_of w5, ok64_of w6, ok64_of w7⟩
set_option maxRecDepth 100000 in
theorem open_valR {m : Nat} {cs : List Value} {y : DataW H × List MemPlace} (h : DataW.trod enc Try.prog W base spare held m 25 cs = some y) : ∃ x : Vl, cs = x.cells ∧ Rng x := by
  obtain ⟨y0, y1, y2, y3, n, hx, hl, h0, h1, h2, h3⟩ := trod_struct4 Try.underlying25 h
  rw [cells48] at hl
  replace h0 : DataW.trod enc Try.prog W base spare held n 3 ((cs.drop 0).take (Try.prog.cellsOf 3)) = some y0 := h0
  replace h1 : DataW.trod enc Try.prog W base spare held n 3 ((cs.drop 1).take (Try.prog.cellsOf 3)) = some y1 := h1
  replace h2 : DataW.trod enc Try.prog W base spare held n 9 ((cs.drop 2).take (Try.prog.cellsOf 9)) = some y2 := h2
  replace h3 : DataW.trod enc Try.prog W base spare held n 23 ((cs.drop 3).take (Try.prog.cellsOf 23)) = some y3 := h3
  rw [cells3] at h0 h1
  rw [cells9] at h2
  rw [cells46] at h3
  match cs, hl with
  | [c0, c1, c2, c3, c4, c5, c6, c7, c8, c9, c10], _ =>
    obtain ⟨k, e0, _⟩ := DataW.trod_int Try.underlying3 h0
    obtain ⟨n, e1, _, w1⟩ := DataW.trod_int Try.underlying3 h1
    obtain ⟨s, e2, _, w2⟩ := DataW.trod_string Try.underlying9 h2
    obtain ⟨a0, a1, a2, a3, a4, a5, a6, a7, e3, g⟩ := open_cells8R h3
    simp at e0 e1 e2 e3
    obtain ⟨e3, e4, e5, e6, e7, e8, e9, e10⟩ := e3
    subst e0 e1 e2 e3 e4 e5 e6 e7 e8 e9 e10
    exact ⟨⟨k, n, s, a0, a1, a2, a3, a4, a5, a6, a7, w2⟩, rfl, ⟨ok64_of w1, g.1, g.2.1, g.2.2.1, g.2.2.2.1, g.2.2.2.2.1, g.2.2.2.2.2.1, g.2.2.2.2.2.2.1, g.2.2.2.2.2.2.2⟩⟩
def RngR (r : Rw) : Prop := ∀ x ∈ r, Rng x
theorem open_rowR {fuel : Nat} {v : Value} {y : DataW H × List MemPlace} (h : DataW.trod enc Try.prog W base spare held fuel 40 [v] = some y) (hf : Fit 40 y.1) : ∃ r : Rw, RowAt W v r ∧ RngR r := by
  obtain ⟨r, hr, hg⟩ := open_sl (α := Vl) (en := Vl.cells) (k := 11) (Good := Rng) Try.underlying40 cells48 (by decide) vl_len (by rw [bytes48]; exact Nat.le_refl _) (fun n cs y h _ => open_valR h) h hf
  exact ⟨r, hr, hg⟩
set_option maxRecDepth 100000 in
theorem open_valA {r : Reach} {b0 : Nat} {v : Value} {d : DataW H} {p : List MemPlace} (hv : Value.okWide Try.prog W r b0 25 v) (h : DataW.Trod enc Try.prog W base spare held 25 v d p) : ∃ x : Vl, v = x.val ∧ Rng x := by
  obtain ⟨cs, rfl, hsz⟩ := okWide_struct Try.underlying25 hv
  obtain ⟨fuel, hf⟩ := h
  obtain ⟨x, hx, hr⟩ := open_valR hf
  obtain ⟨l⟩ := cs
  have hx' : l = x.cells := hx
  exact ⟨x, by rw [hx']; rfl, hr⟩
end
theorem cells5 : Try.prog.cellsOf 5 = 1 := by kernel_rfl
theorem bytes5 : Try.prog.bytesOf 5 = 1 := by kernel_rfl
theorem byte_of {n : Int} (h : (Lit.int .u8 n).wf = true) : ((UInt8.ofNat n.toNat).toNat : Int) = n := by
  have e1 : IntKind.u8.min = 0 := rfl
  have e2 : IntKind.u8.max = 255 := rfl
  simp [Lit.wf, e1, e2] at h
  rw [UInt8.toNat_ofNat']
  omega
/- An argument of type []byte, nil or not. -/
set_option maxRecDepth 100000 in
theorem open_bytes {H : Type} {enc : TypeId × Value → H} {W : World} {r : Reach} {b0 : Nat} {v : Value} {d : DataW H} {p : List MemPlace} (hv : Value.okWide Try.prog W r b0 22 v)
    (h : DataW.Trod enc Try.prog W 0 (fun _ => true) true 22 v d p) :
    ∃ xs : List UInt8, BAt W v xs ∧ (d = .nil ∧ xs = [] ∨ ∃ e s, d = .slice e s ∧ e.length = xs.length) := by
  obtain ⟨a0, len, cap, rfl⟩ := okWide_slice Try.underlying22 hv
  obtain ⟨fuel, hf⟩ := h
  rcases open_ints Try.underlying22 Try.underlying5 cells5 hf with ⟨hcs, hx⟩ | ⟨a, len', cap', zs, hcs, _, hl, hm, hz, hx, hcell, hwz⟩
  · simp [Value.cells] at hcs
    obtain ⟨rfl, rfl, rfl⟩ := hcs
    simp only [Prod.mk.injEq] at hx
    exact ⟨[], ⟨none, 0, rfl, Nat.le_refl _, fun _ => rfl, Nat.zero_le _, fun h => absurd rfl h⟩, .inl ⟨hx.1, rfl⟩⟩
  · simp [Value.cells] at hcs
    obtain ⟨rfl, rfl, rfl⟩ := hcs
    simp only [Prod.mk.injEq] at hx
    obtain ⟨rfl, rfl⟩ := hx
    simp only [if_true] at hz
    have hlen : ((zs.take len).map fun n => UInt8.ofNat n.toNat).length = len := by simp; omega
    refine ⟨(zs.take len).map fun n => UInt8.ofNat n.toNat, ⟨some a, cap, by rw [hlen], by rw [hlen]; exact hl, (fun h => by cases h), hm, fun _ => ⟨a, rfl, fun j x hj => ?_⟩⟩, .inr ⟨_, _, rfl, ?_⟩⟩
    · have hj' : j < len := by have := (List.getElem?_eq_some_iff.1 hj).1; rwa [hlen] at this
      rw [hcell j (by omega)]
      rw [List.getElem?_map, List.getElem?_take_of_lt hj', List.getElem?_eq_getElem (by omega)] at hj
      simp at hj
      rw [List.getD_eq_getElem?_getD, List.getElem?_eq_getElem (by omega), Option.getD_some, ← hj, byte_of (hwz _ (List.getElem_mem _))]
    · simp [lits]
/- How many they can be. -/
set_option maxRecDepth 100000 in
theorem bytes_bound {H : Type} {ts : List TypeId} {ds : List (DataW H)} (h : (DataW.weightsEach Try.prog ts ds).all (· ≤ reachBytes) = true) {j : Nat} {d : DataW H} {xs : List UInt8} (ht : ts[j]? = some 22) (hd : ds[j]? = some d) (hx : d = .nil ∧ xs = [] ∨ ∃ e s, d = .slice e s ∧ e.length = xs.length) : xs.length ≤ 140737488351232 := by
  rcases hx with ⟨_, rfl⟩ | ⟨e, s, rfl, he⟩
  · simp
  · have := sized_slice h ht hd Try.underlying22
    rw [bytes5] at this
    unfold reachBytes at this
    omega
end Go.Proofs.Ytnjeocjachmbkaa
