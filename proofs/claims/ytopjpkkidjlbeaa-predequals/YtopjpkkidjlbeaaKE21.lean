/-
  Stage 15: PredEquals.
-/
import Derived.Test.YtopjpkkidjlbeaaKE16
import Derived.Test.YtopjpkkidjlbeaaKE20
import Derived.BigQuiet
import Derived.BigRegion
import Derived.Deep.RegionHeld3
namespace Go.Proofs.Ytopjpkkidjlbeaa.PD
open Go.RowKit Go.Joins

theorem pm_blk {α : Type} {enc : α → List Value} {k : Nat} {w : World} {b : Nat} {xs : List α} {t : Nat} (hk : ∀ x, (enc x).length = k) (h : w.heap[b]? = some (.cells (xs.flatMap enc).toArray t (0, 0))) (hm : xs.length ≤ 1000) : SlAt (fun b => b < w.heap.size) enc k w (.slice (some ⟨b, 0, none⟩) xs.length xs.length) xs :=
  ⟨some ⟨b, 0, none⟩, xs.length, rfl, ⟨Nat.le_refl _, by unfold maxLen; omega⟩, fun _ => ⟨b, 0, rfl, lt_of_block h, fun j x hj i u hu => by
    have h2 := TN.flat_get hk xs j x hj i u hu
    rw [block_cell h, Nat.zero_add, ← Array.getElem?_toList]
    exact h2⟩⟩
theorem eqn_cells (how : Int) (c : TN.Cl) (v : TN.Vl) : (eqN how c v).cells = [.int .i64 14, .string c.nm, .int .i64 how, .int .i64 0, .int .i64 0, .int .i64 v.k, .int .i64 v.n, .string v.s, .int .i64 v.h0, .int .i64 v.h1, .int .i64 v.h2, .int .i64 v.h3, .int .i64 v.h4, .int .i64 v.h5, .int .i64 v.h6, .int .i64 v.h7, .slice none 0 0, .slice none 0 0, .slice none 0 0] := by
  show [Value.int .i64 14, .string (St c.nm.data.toList), .int .i64 how, .int .i64 0, .int .i64 0, .int .i64 v.k, .int .i64 v.n, .string (St v.s.data.toList), .int .i64 v.h0, .int .i64 v.h1, .int .i64 v.h2, .int .i64 v.h3, .int .i64 v.h4, .int .i64 v.h5, .int .i64 v.h6, .int .i64 v.h7, .slice none 0 0, .slice none 0 0, .slice none 0 0] = _
  rw [St_of, St_of]
theorem eqn_qx {w : World} {b : Nat} {t : Nat} (c : TN.Cl) (v : TN.Vl) (h : w.heap[b]? = some (.cells #[.int .i64 14, .string c.nm, .int .i64 1, .int .i64 0, .int .i64 0, .int .i64 v.k, .int .i64 v.n, .string v.s, .int .i64 v.h0, .int .i64 v.h1, .int .i64 v.h2, .int .i64 v.h3, .int .i64 v.h4, .int .i64 v.h5, .int .i64 v.h6, .int .i64 v.h7, .slice none 0 0, .slice none 0 0, .slice none 0 0, .int .i64 14, .string c.nm, .int .i64 2, .int .i64 0, .int .i64 0, .int .i64 v.k, .int .i64 v.n, .string v.s, .int .i64 v.h0, .int .i64 v.h1, .int .i64 v.h2, .int .i64 v.h3, .int .i64 v.h4, .int .i64 v.h5, .int .i64 v.h6, .int .i64 v.h7, .slice none 0 0, .slice none 0 0, .slice none 0 0] t (0, 0))) : Qx (fun b => b < w.heap.size) w (.slice (some ⟨b, 0, none⟩) 2 2) [eqN 1 c v, eqN 2 c v] := by
  refine ⟨pm_blk (xs := [eqN 1 c v, eqN 2 c v]) (t := t) (fun _ => rfl) ?_ (by show 2 ≤ 1000; omega), fun q hq => ?_⟩
  · rw [h]
    simp only [List.flatMap_cons, List.flatMap_nil, eqn_cells]
    rfl
  · simp only [List.mem_cons, List.not_mem_nil, or_false] at hq
    rcases hq with rfl | rfl <;> exact ⟨⟨none, 0, rfl, ⟨Nat.le_refl _, by unfold maxLen; omega⟩, fun e => absurd rfl e⟩, ⟨none, 0, rfl, ⟨Nat.le_refl _, by unfold maxLen; omega⟩, fun e => absurd rfl e⟩, ⟨none, 0, rfl, ⟨Nat.le_refl _, by unfold maxLen; omega⟩, fun e => absurd rfl e⟩⟩
theorem fin_two {w : World} (o1 o2 : Obj) : ((w.alloc o1).alloc o2).drew.heap[w.heap.size]? = some o1 ∧ ((w.alloc o1).alloc o2).drew.heap[w.heap.size + 1]? = some o2 ∧ Below w.heap.size w ((w.alloc o1).alloc o2).drew := by
  have hb1 : Below w.heap.size w (w.alloc o1) := (Below.refl _ _).alloc (Nat.le_refl _) _
  have hb2 : Below (w.alloc o1).heap.size (w.alloc o1) ((w.alloc o1).alloc o2) := (Below.refl _ _).alloc (Nat.le_refl _) _
  have h2 : ((w.alloc o1).alloc o2).heap[w.heap.size + 1]? = some o2 := by have := alloc_block (w.alloc o1) o2; simpa using this
  exact ⟨block_on (alloc_block w o1) hb2.drew, h2, (hb1.trans (hb2.mono hb1.size)).drew⟩
theorem no15 {cl : TN.Cl} {v : TN.Vl} {q : Nx} (h : q ∈ [eqN 1 cl v, eqN 2 cl v]) : q.np.kind ≠ 15 := by
  simp only [List.mem_cons, List.not_mem_nil, or_false] at h
  rcases h with rfl | rfl
  · show (14 : Int) ≠ 15; decide
  · show (14 : Int) ≠ 15; decide
theorem row_head {B : Nat} {w : World} {p : Option Addr} {n c : Nat} {hs : List Value} {rs : List TN.Rw} (h : Rws B w (.slice p n c) hs rs) {k : Nat} {g : Value} (hg : hs[k]? = some g) : ∃ b o, p = some ⟨b, o, none⟩ ∧ w.cell? ⟨b, o + k, none⟩ = some g := by
  obtain ⟨p', c', e', -, hx⟩ := h.own.sl (fun _ => rfl)
  cases e'
  obtain ⟨b, o, hp, -, hj⟩ := hx (by intro e; rw [e] at hg; simp at hg)
  exact ⟨b, o, hp, by have := hj k g hg 0 g rfl; simpa using this⟩
abbrev S5 (tb bc oc bv : Nat) (v1 v2 : Value) (x : TN.Vl) (w : World) : Prop := w.cell? ⟨tb, 0, none⟩ = some v1 ∧ w.cell? ⟨bc, oc, none⟩ = some v2 ∧ w.cell? ⟨bv, 0, none⟩ = some (.int .i64 x.k) ∧ w.cell? ⟨bv, 1, none⟩ = some (.int .i64 x.n) ∧ w.cell? ⟨bv, 2, none⟩ = some (.string x.s) ∧ w.cell? ⟨bv, 3, none⟩ = some (.int .i64 x.h0) ∧ w.cell? ⟨bv, 4, none⟩ = some (.int .i64 x.h1) ∧ w.cell? ⟨bv, 5, none⟩ = some (.int .i64 x.h2) ∧ w.cell? ⟨bv, 6, none⟩ = some (.int .i64 x.h3) ∧ w.cell? ⟨bv, 7, none⟩ = some (.int .i64 x.h4) ∧ w.cell? ⟨bv, 8, none⟩ = some (.int .i64 x.h5) ∧ w.cell? ⟨bv, 9, none⟩ = some (.int .i64 x.h6) ∧ w.cell? ⟨bv, 10, none⟩ = some (.int .i64 x.h7)
theorem s5B {tb bc oc bv : Nat} {v1 v2 : Value} {x : TN.Vl} {w w' : World} (h : S5 tb bc oc bv v1 v2 x w) (hb : Below w.heap.size w w') : S5 tb bc oc bv v1 v2 x w' := by
  obtain ⟨a1, a2, b0, b1, b2, b3, b4, b5, b6, b7, b8, b9, b10⟩ := h
  have k : ∀ {a : Addr} {u : Value}, w.cell? a = some u → w'.cell? a = some u := fun {a u} h => (hb.cell (p := a) (block_lt_of_cell h)).trans h
  exact ⟨k a1, k a2, k b0, k b1, k b2, k b3, k b4, k b5, k b6, k b7, k b8, k b9, k b10⟩
theorem s5D {tb bc oc bv : Nat} {v1 v2 : Value} {x : TN.Vl} {w : World} (h : S5 tb bc oc bv v1 v2 x w) : S5 tb bc oc bv v1 v2 x w.drew := h
theorem s5A {tb bc oc bv : Nat} {v1 v2 : Value} {x : TN.Vl} {w : World} {o : Obj} (h : S5 tb bc oc bv v1 v2 x w) : S5 tb bc oc bv v1 v2 x (w.alloc o) := s5B h ((Below.refl _ _).alloc (Nat.le_refl _) _)
abbrev S9 (qa ba oa bh oh bv : Nat) (v1 v2 : Value) (y x : TN.Vl) (w : World) : Prop := w.cell? ⟨qa, 1, none⟩ = some v1 ∧ w.cell? ⟨ba, oa, none⟩ = some v2 ∧ w.cell? ⟨bh, oh, none⟩ = some (.int .i64 y.k) ∧ w.cell? ⟨bh, oh + 1, none⟩ = some (.int .i64 y.n) ∧ w.cell? ⟨bh, oh + 2, none⟩ = some (.string y.s) ∧ w.cell? ⟨bh, oh + 3, none⟩ = some (.int .i64 y.h0) ∧ w.cell? ⟨bh, oh + 4, none⟩ = some (.int .i64 y.h1) ∧ w.cell? ⟨bh, oh + 5, none⟩ = some (.int .i64 y.h2) ∧ w.cell? ⟨bh, oh + 6, none⟩ = some (.int .i64 y.h3) ∧ w.cell? ⟨bh, oh + 7, none⟩ = some (.int .i64 y.h4) ∧ w.cell? ⟨bh, oh + 8, none⟩ = some (.int .i64 y.h5) ∧ w.cell? ⟨bh, oh + 9, none⟩ = some (.int .i64 y.h6) ∧ w.cell? ⟨bh, oh + 10, none⟩ = some (.int .i64 y.h7) ∧ w.cell? ⟨bv, 0, none⟩ = some (.int .i64 x.k) ∧ w.cell? ⟨bv, 1, none⟩ = some (.int .i64 x.n) ∧ w.cell? ⟨bv, 2, none⟩ = some (.string x.s) ∧ w.cell? ⟨bv, 3, none⟩ = some (.int .i64 x.h0) ∧ w.cell? ⟨bv, 4, none⟩ = some (.int .i64 x.h1) ∧ w.cell? ⟨bv, 5, none⟩ = some (.int .i64 x.h2) ∧ w.cell? ⟨bv, 6, none⟩ = some (.int .i64 x.h3) ∧ w.cell? ⟨bv, 7, none⟩ = some (.int .i64 x.h4) ∧ w.cell? ⟨bv, 8, none⟩ = some (.int .i64 x.h5) ∧ w.cell? ⟨bv, 9, none⟩ = some (.int .i64 x.h6) ∧ w.cell? ⟨bv, 10, none⟩ = some (.int .i64 x.h7)
theorem s9D {qa ba oa bh oh bv : Nat} {v1 v2 : Value} {y x : TN.Vl} {w : World} (h : S9 qa ba oa bh oh bv v1 v2 y x w) : S9 qa ba oa bh oh bv v1 v2 y x w.drew := h
theorem eq_run {x y : TN.Vl} {r : Bool} (h : TN.eqL x y = r) (w : World) : Sem.run Try.prog (Op.equalIn Op.maxDepth 39 (.agg #[.int .i64 x.k, .int .i64 x.n, .string x.s, .int .i64 x.h0, .int .i64 x.h1, .int .i64 x.h2, .int .i64 x.h3, .int .i64 x.h4, .int .i64 x.h5, .int .i64 x.h6, .int .i64 x.h7]) (.agg #[.int .i64 y.k, .int .i64 y.n, .string y.s, .int .i64 y.h0, .int .i64 y.h1, .int .i64 y.h2, .int .i64 y.h3, .int .i64 y.h4, .int .i64 y.h5, .int .i64 y.h6, .int .i64 y.h7])) w = .ok r w := h ▸ TN.eql24 x.k x.n x.s x.h0 x.h1 x.h2 x.h3 x.h4 x.h5 x.h6 x.h7 y.k y.n y.s y.h0 y.h1 y.h2 y.h3 y.h4 y.h5 y.h6 y.h7 w
theorem vc_on {w w' : World} {b o : Nat} {v : TN.Vl} (h : TN.ValCells w b o v) (hb : Below w.heap.size w w') : TN.ValCells w' b o v :=
  have k : ∀ {i : Nat} {u : Value}, w.cell? ⟨b, i, none⟩ = some u → w'.cell? ⟨b, i, none⟩ = some u := fun hc => (hb.cell (p := ⟨b, _, none⟩) (block_lt_of_cell hc)).trans hc
  ⟨k h.c0, k h.c1, k h.c2, k h.c3, k h.c4, k h.c5, k h.c6, k h.c7, k h.c8, k h.c9, k h.c10⟩
end Go.Proofs.Ytopjpkkidjlbeaa.PD
