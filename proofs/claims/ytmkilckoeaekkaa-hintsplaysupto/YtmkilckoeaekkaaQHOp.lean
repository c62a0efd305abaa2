/-
  An op read from its row: its kind, its schema, its point; what lies below stays.
-/
import Derived.Test.YtmkilckoeaekkaaQHBeg
namespace Go.Proofs.Ytmkilckoeaekkaa
open Go.RowKit Go.Sort Go.Maps Go.Shelf

theorem SlAt.below {α : Type} {enc : α → List Value} {n B : Nat} {w w' : World} {v : Value} {xs : List α} (h : SlAt (fun k => k < B) enc n w v xs) (hb : Below B w w') : SlAt (fun k => k < B) enc n w' v xs := by
  obtain ⟨p, cap, hv, hc, hx⟩ := h
  refine ⟨p, cap, hv, hc, fun hne => ?_⟩
  obtain ⟨b, o, hp, hQ, hj⟩ := hx hne
  exact ⟨b, o, hp, hQ, fun j x hjx i u hu => (hb.cell (p := ⟨b, o + j * n + i, none⟩) hQ).trans (hj j x hjx i u hu)⟩
theorem Ar.below {B : Nat} {w w' : World} {ks vs pk pv : Value} {kc vc : List Cl} {kv vv : List Vl} (h : Ar (fun k => k < B) w ks vs pk pv kc vc kv vv) (hb : Below B w w') : Ar (fun k => k < B) w' ks vs pk pv kc vc kv vv :=
  ⟨SlAt.below h.h1 hb, SlAt.below h.h2 hb, SlAt.below h.h3 hb, SlAt.below h.h4 hb, h.c1, h.c3, h.s2, h.s4⟩
theorem size37 : (Try.prog.info? 37).map (·.size) = some 3 := by kernel_rfl
theorem size40 : (Try.prog.info? 40).map (·.size) = some 4 := by kernel_rfl
/- The cells of the op at o of block b. -/
abbrev So (b o : Nat) (x : Oc) (w : World) : Prop := (w.cell? ⟨b, o, none⟩ = some (.int .i64 x.k) ∧ b < w.heap.size) ∧ w.rangeAt b (o + 1) [.string x.nm, x.ks, x.vs] ∧ w.rangeAt b (o + 4) [.string x.sc, x.pk, .int .i64 x.t, x.pv]
theorem soD {b o : Nat} {x : Oc} {w : World} (h : So b o x w) : So b o x w.drew := h
theorem so_of {B : Nat} {w : World} {p : Option Addr} {n c : Nat} {os : List Oc} (h : SlAt (fun k => k < B) Oc.cells 8 w (.slice p n c) os) {k : Nat} {x : Oc} (hk : os[k]? = some x) : ∃ b o, p = some ⟨b, o, none⟩ ∧ b < B ∧ So b (o + k * 8) x w := by
  obtain ⟨b, o, hp, hQ, hc⟩ := h.at hk
  have h0 := hc 0 _ rfl
  refine ⟨b, o, hp, hQ, ⟨h0, block_lt_of_cell h0⟩, fun i u hu => ?_, fun i u hu => ?_⟩
  · have := hc (1 + i) u (by rw [← hu]; show (x.cells)[1 + i]? = _; match i with | 0 => rfl | 1 => rfl | 2 => rfl | j + 3 => simp at hu)
    rw [← Nat.add_assoc] at this
    exact this
  · have := hc (4 + i) u (by rw [← hu]; show (x.cells)[4 + i]? = _; match i with | 0 => rfl | 1 => rfl | 2 => rfl | 3 => rfl | j + 4 => simp at hu)
    rw [← Nat.add_assoc] at this
    exact this
theorem run_schema {b o : Nat} {x : Oc} {w : World} (h : So b o x w) : (Instr.loadAt 37 (.pointer (some ⟨b, o + 1, none⟩))).run Try.prog w = .ok (Sc x.nm x.ks x.vs) w :=
  run_loadAt_mid w b (o + 1) 37 [.string x.nm, x.ks, x.vs] _ h.2.1 Try.underlying37 rfl size37
theorem run_point {b o : Nat} {x : Oc} {w : World} (h : So b o x w) : (Instr.loadAt 40 (.pointer (some ⟨b, o + 4, none⟩))).run Try.prog w = .ok (Po x.sc x.pk x.t x.pv) w :=
  run_loadAt_mid w b (o + 4) 40 [.string x.sc, x.pk, .int .i64 x.t, x.pv] _ h.2.2 Try.underlying40 rfl size40
theorem soB {b o B : Nat} {x : Oc} {w w' : World} (h : So b o x w) (hb : Below B w w') (hB : b < B) : So b o x w' := by
  refine ⟨⟨(hb.cell (p := ⟨b, o, none⟩) hB).trans h.1.1, Nat.lt_of_lt_of_le h.1.2 hb.size⟩, fun i u hu => ?_, fun i u hu => ?_⟩
  · exact (hb.cell (p := ⟨b, o + 1 + i, none⟩) hB).trans (h.2.1 i u hu)
  · exact (hb.cell (p := ⟨b, o + 4 + i, none⟩) hB).trans (h.2.2 i u hu)
end Go.Proofs.Ytmkilckoeaekkaa
