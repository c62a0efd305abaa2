/-
  Arguments of wire's statements opened as their types say.
-/
import Derived.Test.YtjfholofgohcjaaQParse
import Derived.Test.YtjfholofgohcjaaQLaid
namespace Go.Proofs.Ytjfholofgohcjaa
open Go.ChangeShapes Go.WideShapes Go.ChangeAt Go.WideMaps Go.WideElems Go.RowKit Go.Joins

section
variable {H : Type} {enc : TypeId × Value → H} {W : World} {base : Nat} {spare : Nat → Bool} {held : Bool}
set_option maxRecDepth 100000 in
theorem open_cells8R {m : Nat} {cs : List Value} {y : DataW H × List MemPlace} (h : DataW.trod enc Try.prog W base spare held m 42 cs = some y) :
    ∃ a0 a1 a2 a3 a4 a5 a6 a7 : Int, cs = [.int .i64 a0, .int .i64 a1, .int .i64 a2, .int .i64 a3, .int .i64 a4, .int .i64 a5, .int .i64 a6, .int .i64 a7] ∧ Rg a0 ∧ Rg a1 ∧ Rg a2 ∧ Rg a3 ∧ Rg a4 ∧ Rg a5 ∧ Rg a6 ∧ Rg a7 := by
  obtain ⟨xs, m1, rfl, hx1, hlen, hn, hel⟩ := DataW.trod_array Try.underlying42 h
  rw [cells46] at hlen
  rw [cells3] at hel
  match cs, hlen with
  | [c0, c1, c2, c3, c4, c5, c6, c7], _ =>
    match xs, hn with
    | [x0, x1, x2, x3, x4, x5, x6, x7], _ =>
      obtain ⟨a0, e0, _, w0⟩ := DataW.trod_int Try.underlying3 (show DataW.trod enc Try.prog W base spare held m1 3 _ = some x0 from hel 0 (by decide))
      obtain ⟨a1, e1, _, w1⟩ := DataW.trod_int Try.underlying3 (show DataW.trod enc Try.prog W base spare held m1 3 _ = some x1 from hel 1 (by decide))
      obtain ⟨a2, e2, _, w2⟩ := DataW.trod_int Try.underlying3 (show DataW.trod enc Try.prog W base spare held m1 3 _ = some x2 from hel 2 (by decide))
      obtain ⟨a3, e3, _, w3⟩ := DataW.trod_int Try.underlying3 (show DataW.trod enc Try.prog W base spare held m1 3 _ = some x3 from hel 3 (by decide))
      obtain ⟨a4, e4, _, w4⟩ := DataW.trod_int Try.underlying3 (show DataW.trod enc Try.prog W base spare held m1 3 _ = some x4 from hel 4 (by decide))
      obtain ⟨a5, e5, _, w5⟩ := DataW.trod_int Try.underlying3 (show DataW.trod enc Try.prog W base spare held m1 3 _ = some x5 from hel 5 (by decide))
      obtain ⟨a6, e6, _, w6⟩ := DataW.trod_int Try.underlying3 (show DataW.trod enc Try.prog W base spare held m1 3 _ = some x6 from hel 6 (by decide))
      obtain ⟨a7, e7, _, w7⟩ := DataW.trod_int Try.underlying3 (show DataW.trod enc Try.prog W base spare held m1 3 _ = some x7 from hel 7 (by decide))
      simp at e0 e1 e2 e3 e4 e5 e6 e7
      subst e0 e1 e2 e3 e4 e5 e6 e7
      exact ⟨a0, a1, a2, a3, a4, a5, a6, a7, rfl, ok64_of w0, ok64_of w1, ok64_of w2, ok64_of w3, ok64_of w4, ok64_of w5, ok64_of w6, ok64_of w7⟩
set_option maxRecDepth 100000 in
theorem open_valR {m : Nat} {cs : List Value} {y : DataW H × List MemPlace} (h : DataW.trod enc Try.prog W base spare held m 44 cs = some y) : ∃ x : Vl, cs = x.cells ∧ Rng x := by
  obtain ⟨y0, y1, y2, y3, n, hx, hl, h0, h1, h2, h3⟩ := trod_struct4 Try.underlying44 h
  rw [cells48] at hl
  replace h0 : DataW.trod enc Try.prog W base spare held n 3 ((cs.drop 0).take (Try.prog.cellsOf 3)) = some y0 := h0
  replace h1 : DataW.trod enc Try.prog W base spare held n 3 ((cs.drop 1).take (Try.prog.cellsOf 3)) = some y1 := h1
  replace h2 : DataW.trod enc Try.prog W base spare held n 9 ((cs.drop 2).take (Try.prog.cellsOf 9)) = some y2 := h2
  replace h3 : DataW.trod enc Try.prog W base spare held n 42 ((cs.drop 3).take (Try.prog.cellsOf 42)) = some y3 := h3
  rw [cells3] at h0 h1
  rw [cells9] at h2
  rw [cells46] at h3
  match cs, hl with
  | [c0, c1, c2, c3, c4, c5, c6, c7, c8, c9, c10], _ =>
    obtain ⟨k, e0, _⟩ := DataW.trod_int Try.underlying3 h0
    obtain ⟨n, e1, _, w1⟩ := DataW.trod_int Try.underlying3 h1
    obtain ⟨s, e2, _, w2⟩ := DataW.trod_string Try.underlying9 h2
    obtain ⟨a0, a1, a2, a3, a4, a5, a6, a7, e3, g⟩ := open_cells8R h3
    simp at e0 e1 e2 e3
    obtain ⟨e3, e4, e5, e6, e7, e8, e9, e10⟩ := e3
    subst e0 e1 e2 e3 e4 e5 e6 e7 e8 e9 e10
    exact ⟨⟨k, n, s, a0, a1, a2, a3, a4, a5, a6, a7, w2⟩, rfl, ⟨ok64_of w1, g.1, g.2.1, g.2.2.1, g.2.2.2.1, g.2.2.2.2.1, g.2.2.2.2.2.1, g.2.2.2.2.2.2.1, g.2.2.2.2.2.2.2⟩⟩
theorem open_rowR {fuel : Nat} {v : Value} {y : DataW H × List MemPlace} (h : DataW.trod enc Try.prog W base spare held fuel 65 [v] = some y) (hf : Fit 65 y.1) : ∃ r : Rw, RowAt W v r ∧ RngR r := by
  obtain ⟨r, hr, hg⟩ := open_sl (α := Vl) (en := Vl.cells) (k := 11) (Good := Rng) Try.underlying65 cells48 (by decide) vl_len (by rw [bytes48]; exact Nat.le_refl _) (fun n cs y h _ => open_valR h) h hf
  exact ⟨r, hr, hg⟩
theorem open_rowsR {fuel : Nat} {v : Value} {y : DataW H × List MemPlace} (h : DataW.trod enc Try.prog W base spare held fuel 23 [v] = some y) (hf : Fit 23 y.1) : ∃ rs : List Rw, RowsAt W v rs ∧ RngT rs := by
  obtain ⟨xs, ⟨p, cap, hv, hc, hm, hx⟩, hg⟩ := open_sl (α := Value × Rw) (en := enP) (k := 1) (Good := fun x => RowAt W x.1 x.2 ∧ RngR x.2) Try.underlying23 cells35 (by decide) (fun _ => rfl) (by rw [bytes35]; exact Nat.le_refl _) (fun n cs y h hf => by
    have hl : cs.length = 1 := by rcases DataW.trod_slice Try.underlying65 h with ⟨e, _⟩ | ⟨_, _, _, _, _, _, _, e, _⟩ <;> (subst e; rfl)
    match cs, hl with
    | [u], _ =>
      obtain ⟨r, hr⟩ := open_rowR h hf
      exact ⟨(u, r), rfl, hr⟩) h hf
  refine ⟨xs.map (·.2), ⟨xs.map (·.1), ⟨p, cap, by rw [List.length_map]; exact hv, by rw [List.length_map]; exact hc, by rw [List.length_map]; exact hm, fun hne => ?_⟩, by simp, fun j u r h1 h2 => ?_⟩, fun r hr => by obtain ⟨x, hx', rfl⟩ := List.mem_map.1 hr; exact (hg x hx').2⟩
  · obtain ⟨b, o, hp, hQ, hj⟩ := hx (by intro e; subst e; simp at hne)
    refine ⟨b, o, hp, by rw [List.length_map]; exact hQ, fun j u hju => ?_⟩
    rw [List.getElem?_map] at hju
    cases hxj : xs[j]? with
    | none => rw [hxj] at hju; cases hju
    | some x => rw [hxj] at hju; cases hju; exact hj j x hxj
  · rw [List.getElem?_map] at h1 h2
    cases hxj : xs[j]? with
    | none => rw [hxj] at h1; cases h1
    | some x =>
      rw [hxj] at h1 h2
      cases h1; cases h2
      exact (hg x (List.mem_of_getElem? hxj)).1
set_option maxRecDepth 100000 in
theorem open_tabR {r : Reach} {b0 : Nat} {v : Value} {d : DataW H} {p : List MemPlace} (hv : Value.okWide Try.prog W r b0 25 v) (h : DataW.Trod enc Try.prog W base spare held 25 v d p) (hf : Fit 25 d) : ∃ cs rs, TabAt W v cs rs ∧ RngT rs := by
  obtain ⟨cs, rfl, hsz⟩ := okWide_struct Try.underlying25 hv
  obtain ⟨fuel, hfu⟩ := h
  obtain ⟨y0, y1, n, hx, hl, h0, h1⟩ := trod_struct2 Try.underlying25 hfu
  rw [cells25] at hl
  obtain ⟨l⟩ := cs
  replace hl : l.length = 2 := hl
  replace h0 : DataW.trod enc Try.prog W base spare held n 22 ((l.drop 0).take (Try.prog.cellsOf 22)) = some y0 := h0
  replace h1 : DataW.trod enc Try.prog W base spare held n 23 ((l.drop 1).take (Try.prog.cellsOf 23)) = some y1 := h1
  rw [cells22] at h0
  rw [cells23] at h1
  cases hx
  match l, hl with
  | [c, q], _ =>
    have f0 : Fit 22 y0.1 := fun m hm => hf m (by simp only [DataW.weights, Try.underlying25]; exact DataW.weights_mem_each (j := 0) (t := 22) rfl rfl m hm)
    have f1 : Fit 23 y1.1 := fun m hm => hf m (by simp only [DataW.weights, Try.underlying25]; exact DataW.weights_mem_each (j := 1) (t := 23) rfl rfl m hm)
    obtain ⟨cl, hc⟩ := open_cols h0 f0
    obtain ⟨rs, hr, hg⟩ := open_rowsR h1 f1
    exact ⟨cl, rs, ⟨c, q, rfl, hc, hr⟩, hg⟩
set_option maxRecDepth 100000 in
theorem open_valA {r : Reach} {b0 : Nat} {v : Value} {d : DataW H} {p : List MemPlace} (hv : Value.okWide Try.prog W r b0 44 v) (h : DataW.Trod enc Try.prog W base spare held 44 v d p) : ∃ x : Vl, v = x.val ∧ Rng x := by
  obtain ⟨cs, rfl, hsz⟩ := okWide_struct Try.underlying44 hv
  obtain ⟨fuel, hf⟩ := h
  obtain ⟨x, hx, hr⟩ := open_valR hf
  obtain ⟨l⟩ := cs
  have hx' : l = x.cells := hx
  exact ⟨x, by rw [hx']; rfl, hr⟩
end
theorem cells5 : Try.prog.cellsOf 5 = 1 := by kernel_rfl
theorem bytes5 : Try.prog.bytesOf 5 = 1 := by kernel_rfl
theorem byte_of {n : Int} (h : (Lit.int .u8 n).wf = true) : ((UInt8.ofNat n.toNat).toNat : Int) = n := by
  have e1 : IntKind.u8.min = 0 := rfl
  have e2 : IntKind.u8.max = 255 := rfl
  simp [Lit.wf, e1, e2] at h
  rw [UInt8.toNat_ofNat']
  omega
/- An argument of type []byte, nil or not. -/
set_option maxRecDepth 100000 in
theorem open_bytes {H : Type} {enc : TypeId × Value → H} {W : World} {r : Reach} {b0 : Nat} {v : Value} {d : DataW H} {p : List MemPlace} (hv : Value.okWide Try.prog W r b0 41 v)
    (h : DataW.Trod enc Try.prog W 0 (fun _ => true) true 41 v d p) :
    ∃ xs : List UInt8, BAt W v xs ∧ (d = .nil ∧ xs = [] ∨ ∃ e s, d = .slice e s ∧ e.length = xs.length) := by
  obtain ⟨a0, len, cap, rfl⟩ := okWide_slice Try.underlying41 hv
  obtain ⟨fuel, hf⟩ := h
  rcases open_ints Try.underlying41 Try.underlying5 cells5 hf with ⟨hcs, hx⟩ | ⟨a, len', cap', zs, hcs, _, hl, hm, hz, hx, hcell, hwz⟩
  · simp [Value.cells] at hcs
    obtain ⟨rfl, rfl, rfl⟩ := hcs
    simp only [Prod.mk.injEq] at hx
    exact ⟨[], ⟨none, 0, rfl, Nat.le_refl _, fun _ => rfl, Nat.zero_le _, fun h => absurd rfl h⟩, .inl ⟨hx.1, rfl⟩⟩
  · simp [Value.cells] at hcs
    obtain ⟨rfl, rfl, rfl⟩ := hcs
    simp only [Prod.mk.injEq] at hx
    obtain ⟨rfl, rfl⟩ := hx
    simp only [if_true] at hz
    have hlen : ((zs.take len).map fun n => UInt8.ofNat n.toNat).length = len := by simp; omega
    refine ⟨(zs.take len).map fun n => UInt8.ofNat n.toNat, ⟨some a, cap, by rw [hlen], by rw [hlen]; exact hl, (fun h => by cases h), hm, fun _ => ⟨a, rfl, fun j x hj => ?_⟩⟩, .inr ⟨_, _, rfl, ?_⟩⟩
    · have hj' : j < len := by have := (List.getElem?_eq_some_iff.1 hj).1; rwa [hlen] at this
      rw [hcell j (by omega)]
      rw [List.getElem?_map, List.getElem?_take_of_lt hj', List.getElem?_eq_getElem (by omega)] at hj
      simp at hj
      rw [List.getD_eq_getElem?_getD, List.getElem?_eq_getElem (by omega), Option.getD_some, ← hj, byte_of (hwz _ (List.getElem_mem _))]
    · simp [lits]
/- How many they can be. -/
set_option maxRecDepth 100000 in
theorem bytes_bound {H : Type} {ts : List TypeId} {ds : List (DataW H)} (h : (DataW.weightsEach Try.prog ts ds).all (· ≤ reachBytes) = true) {j : Nat} {d : DataW H} {xs : List UInt8} (ht : ts[j]? = some 41) (hd : ds[j]? = some d) (hx : d = .nil ∧ xs = [] ∨ ∃ e s, d = .slice e s ∧ e.length = xs.length) : xs.length ≤ 140737488351232 := by
  rcases hx with ⟨_, rfl⟩ | ⟨e, s, rfl, he⟩
  · simp
  · have := sized_slice h ht hd Try.underlying41
    rw [bytes5] at this
    unfold reachBytes at this
    omega
end Go.Proofs.Ytjfholofgohcjaa
