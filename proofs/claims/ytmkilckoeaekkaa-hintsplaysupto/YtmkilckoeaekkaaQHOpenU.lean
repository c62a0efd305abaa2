/-
  A row of ops opened, with how many columns each schema has at most.
-/
import Derived.Test.YtmkilckoeaekkaaQHOpen
import Derived.Test.YtmkilckoeaekkaaQHBeg
namespace Go.Proofs.Ytmkilckoeaekkaa
open Go.ChangeShapes Go.WideShapes Go.ChangeAt Go.WideMaps Go.WideElems Go.RowKit Go.Joins

section
variable {H : Type} {enc : TypeId × Value → H} {W : World} {base : Nat} {spare : Nat → Bool} {held : Bool}
def FitB (t : TypeId) (d : DataW H) : Prop := Fit t d ∧ Rows.uptoBulk d ≤ 1048576
theorem bulk_pos (d : DataW H) : 1 ≤ Rows.uptoBulk d := by
  cases d with
  | lit x => cases x <;> simp [Rows.uptoBulk]
  | nil => simp [Rows.uptoBulk]
  | ptr d => simp [Rows.uptoBulk]
  | slice a b => simp [Rows.uptoBulk]
  | agg a => simp [Rows.uptoBulk]
  | iface a b => simp [Rows.uptoBulk]
  | map a => simp [Rows.uptoBulk]
  | held a => simp [Rows.uptoBulk]
theorem bulk_all : ∀ (l : List (DataW H)), l.length ≤ Rows.uptoBulkAll l ∧ ∀ d ∈ l, Rows.uptoBulk d ≤ Rows.uptoBulkAll l
  | [] => ⟨by simp, fun d hd => by cases hd⟩
  | d :: r => by
    obtain ⟨h1, h2⟩ := bulk_all r
    have h3 := bulk_pos d
    simp only [Rows.uptoBulkAll, List.length_cons]
    refine ⟨by omega, fun x hx => ?_⟩
    rcases List.mem_cons.1 hx with rfl | hx
    · omega
    · have := h2 x hx; omega
theorem bulk_slice {es sp : List (DataW H)} (h : Rows.uptoBulk (.slice es sp) ≤ 1048576) : (∀ d ∈ es, Rows.uptoBulk d ≤ 1048576) ∧ es.length ≤ 1048576 := by
  obtain ⟨h1, h2⟩ := bulk_all es
  simp only [Rows.uptoBulk] at h
  exact ⟨fun d hd => by have := h2 d hd; omega, by omega⟩
theorem open_slB {α : Type} [Inhabited α] {en : α → List Value} {k : Nat} {Good : α → Prop} {t e : TypeId} (ht : Try.prog.underlying t = some (.slice e)) (hc : Try.prog.cellsOf e = k) (hk : 0 < k) (hen : ∀ x, (en x).length = k)
    (each : ∀ n cs (y : DataW H × List MemPlace), DataW.trod enc Try.prog W base spare held n e cs = some y → FitB e y.1 → ∃ x, cs = en x ∧ Good x) {fuel : Nat} {v : Value} {y : DataW H × List MemPlace}
    (h : DataW.trod enc Try.prog W base spare held fuel t [v] = some y) (hf : FitB t y.1) : ∃ xs, SlAt (fun b => b < W.heap.size) en k W v xs ∧ (∀ x ∈ xs, Good x) ∧ xs.length * Try.prog.bytesOf e ≤ 140737488355328 ∧ xs.length ≤ 1048576 := by
  rcases Deep.open_slice ht h with ⟨hcs, _⟩ | ⟨a, len, cap, m, n, D, Pl, hcs, hba, hl, hm, hmm, hx, hall⟩
  · cases hcs
    exact ⟨[], nil_sl _ _ _ _, fun x hx => (by cases hx), by simp, by simp⟩
  · cases hcs
    subst hx
    have hlm : len ≤ m := by rw [hmm]; split <;> omega
    obtain ⟨hfe0, hbe⟩ := fit_elem ht hf.1
    obtain ⟨hb1, hb2⟩ := bulk_slice hf.2
    have hfe := fun d hd => (⟨hfe0 d hd, hb1 d hd⟩ : FitB e d)
    obtain ⟨X, hX⟩ := Deep.choose_lt (α := α) (n := len) (p := fun i x => W.cells? base (a.add (i * k)) k = some (en x) ∧ Good x) (fun i hi => by
      obtain ⟨cs', h1, h2⟩ := hall i (by omega)
      rw [hc] at h1
      obtain ⟨x, rfl, hg⟩ := each n cs' _ h2 (hfe _ (List.mem_map.2 ⟨i, List.mem_range.2 hi, rfl⟩))
      exact ⟨x, h1, hg⟩)
    have hlen : ((List.range len).map X).length = len := by simp
    refine ⟨(List.range len).map X, ⟨some a, cap, by rw [hlen], ⟨by rw [hlen]; exact hl, by omega⟩, fun hne => ?_⟩, ?_, ?_, ?_⟩
    · have h0 : 0 < len := Nat.pos_of_ne_zero (fun e => hne (by rw [e]; rfl))
      obtain ⟨b, off, spot⟩ := a
      have hsp : spot = none := by
        have h1 := (World.cells?_some (hX 0 h0).1).2.2 0 hk
        rw [Nat.zero_mul] at h1
        have h2 : (en (X 0))[0]? = some ((en (X 0))[0]'(by rw [hen]; exact hk)) := List.getElem?_eq_getElem _
        rw [h2] at h1
        simpa [Addr.add] using World.cell?_spot h1
      subst hsp
      have hcell : ∀ (j : Nat) x, ((List.range len).map X)[j]? = some x → CellsAt W b (off + j * k) (en x) := fun j x hj i u hu => by
        have hj' : j < len := by have := (List.getElem?_eq_some_iff.1 hj).1; rwa [hlen] at this
        have hxj : X j = x := by simpa [List.getElem?_map, List.getElem?_range hj'] using hj
        subst hxj
        have hi : i < k := by have := (List.getElem?_eq_some_iff.1 hu).1; rwa [hen] at this
        have h1 := (World.cells?_some (hX j hj').1).2.2 i hi
        rw [hu, Addr.add_lit, Addr.add_lit] at h1
        exact h1
      refine ⟨b, off, rfl, ?_, hcell⟩
      have h2 : (en (X 0))[0]? = some ((en (X 0))[0]'(by rw [hen]; exact hk)) := List.getElem?_eq_getElem _
      exact block_lt_of_cell (hcell 0 (X 0) (by simp [h0]) 0 _ h2)
    · intro x hx
      obtain ⟨i, hi, rfl⟩ := List.mem_map.1 hx
      exact (hX i (List.mem_range.1 hi)).2
    · rw [hlen]
      simpa using hbe
    · rw [hlen]; simpa using hb2
theorem open_colsB {fuel : Nat} {v : Value} {y : DataW H × List MemPlace} (h : DataW.trod enc Try.prog W base spare held fuel 35 [v] = some y) (hf : FitB 35 y.1) : ∃ l, SlAt (fun b => b < W.heap.size) Cl.cells 2 W v l ∧ (∀ c ∈ l, c.nm.size ≤ 281474976710656) ∧ l.length * Try.prog.bytesOf 75 ≤ 140737488355328 ∧ l.length ≤ 1048576 :=
  open_slB (α := Cl) (en := Cl.cells) (k := 2) (Good := fun c => c.nm.size ≤ 281474976710656) Try.underlying35 cells75 (by decide) (fun _ => rfl) (fun n cs y h hf => open_col h hf.1) h hf
set_option maxRecDepth 100000 in
set_option maxHeartbeats 1000000 in
theorem open_opB {m : Nat} {cs : List Value} {y : DataW H × List MemPlace} (h : DataW.trod enc Try.prog W base spare held m 42 cs = some y) (hf : FitB 42 y.1) : ∃ x : Oc, cs = x.cells ∧ GoodO W x ∧ x.kc.length ≤ 1048576 ∧ x.vc.length ≤ 1048576 := by
  obtain ⟨y0, y1, y2, n, hx, hl, h0, h1, h2⟩ := Deep.trod_struct3 Try.underlying42 h
  rw [cells42] at hl
  replace h0 : DataW.trod enc Try.prog W base spare held n 3 ((cs.drop 0).take (Try.prog.cellsOf 3)) = some y0 := h0
  replace h1 : DataW.trod enc Try.prog W base spare held n 37 ((cs.drop 1).take (Try.prog.cellsOf 37)) = some y1 := h1
  replace h2 : DataW.trod enc Try.prog W base spare held n 40 ((cs.drop 4).take (Try.prog.cellsOf 40)) = some y2 := h2
  rw [cells3] at h0
  rw [cells37] at h1
  rw [cells40] at h2
  subst hx
  have f1 : Fit 37 y1.1 := fun m hm => hf.1 m (by simp only [DataW.weights, Try.underlying42]; exact DataW.weights_mem_each (j := 1) (t := 37) rfl rfl m hm)
  have f2 : Fit 40 y2.1 := fun m hm => hf.1 m (by simp only [DataW.weights, Try.underlying42]; exact DataW.weights_mem_each (j := 2) (t := 40) rfl rfl m hm)
  obtain ⟨a0, a1, a2, na, hxa, hla, g0, g1, g2⟩ := Deep.trod_struct3 Try.underlying37 h1
  obtain ⟨p0, p1, p2, p3, np, hxp, hlp, q0, q1, q2, q3⟩ := trod_struct4 Try.underlying40 h2
  have hB1 : Rows.uptoBulk y1.1 ≤ 1048576 := by have := hf.2; simp only [Rows.uptoBulk, Rows.uptoBulkAll] at this; omega
  subst hxa hxp
  have hBa : Rows.uptoBulk a1.1 ≤ 1048576 ∧ Rows.uptoBulk a2.1 ≤ 1048576 := by simp only [Rows.uptoBulk, Rows.uptoBulkAll] at hB1; omega
  match cs, hl with
  | [c0, c1, c2, c3, c4, c5, c6, c7], _ =>
    replace g0 : DataW.trod enc Try.prog W base spare held na 9 (([c1, c2, c3].drop 0).take (Try.prog.cellsOf 9)) = some a0 := g0
    replace g1 : DataW.trod enc Try.prog W base spare held na 35 (([c1, c2, c3].drop 1).take (Try.prog.cellsOf 35)) = some a1 := g1
    replace g2 : DataW.trod enc Try.prog W base spare held na 35 (([c1, c2, c3].drop 2).take (Try.prog.cellsOf 35)) = some a2 := g2
    replace q0 : DataW.trod enc Try.prog W base spare held np 9 (([c4, c5, c6, c7].drop 0).take (Try.prog.cellsOf 9)) = some p0 := q0
    replace q1 : DataW.trod enc Try.prog W base spare held np 38 (([c4, c5, c6, c7].drop 1).take (Try.prog.cellsOf 38)) = some p1 := q1
    replace q2 : DataW.trod enc Try.prog W base spare held np 3 (([c4, c5, c6, c7].drop 2).take (Try.prog.cellsOf 3)) = some p2 := q2
    replace q3 : DataW.trod enc Try.prog W base spare held np 38 (([c4, c5, c6, c7].drop 3).take (Try.prog.cellsOf 38)) = some p3 := q3
    rw [cells9] at g0 q0
    rw [cells35] at g1 g2
    rw [cells38] at q1 q3
    rw [cells3] at q2
    have fa : ∀ (j : Nat) (t : TypeId) (z : DataW H × List MemPlace), [a0, a1, a2][j]? = some z → [9, 35, 35][j]? = some t → Fit t z.1 := fun j t z hz ht m hm => f1 m (by
      simp only [DataW.weights, Try.underlying37]
      refine DataW.weights_mem_each (ds := [a0.1, a1.1, a2.1]) (j := j) (t := t) ?_ ?_ m hm
      · simpa using ht
      · rw [show [a0.1, a1.1, a2.1] = [a0, a1, a2].map (·.1) from rfl, List.getElem?_map, hz]; rfl)
    have fp : ∀ (j : Nat) (t : TypeId) (z : DataW H × List MemPlace), [p0, p1, p2, p3][j]? = some z → [9, 38, 3, 38][j]? = some t → Fit t z.1 := fun j t z hz ht m hm => f2 m (by
      simp only [DataW.weights, Try.underlying40]
      refine DataW.weights_mem_each (ds := [p0.1, p1.1, p2.1, p3.1]) (j := j) (t := t) ?_ ?_ m hm
      · simpa using ht
      · rw [show [p0.1, p1.1, p2.1, p3.1] = [p0, p1, p2, p3].map (·.1) from rfl, List.getElem?_map, hz]; rfl)
    obtain ⟨k, e0, _, wk⟩ := DataW.trod_int Try.underlying3 h0
    obtain ⟨nm, e1, hs1⟩ := open_cell_str g0 (fa 0 _ _ rfl rfl)
    obtain ⟨kc, x1, x1s, x1n, x1b⟩ := open_colsB (v := c2) g1 ⟨fa 1 _ _ rfl rfl, hBa.1⟩
    obtain ⟨vc, x3, x3s, x3n, x3b⟩ := open_colsB (v := c3) g2 ⟨fa 2 _ _ rfl rfl, hBa.2⟩
    obtain ⟨sc, e4, hs4⟩ := open_cell_str q0 (fp 0 _ _ rfl rfl)
    obtain ⟨kv, x2, x2s⟩ := open_vals (v := c5) q1 (fp 1 _ _ rfl rfl)
    obtain ⟨t, e6, _⟩ := DataW.trod_int Try.underlying3 q2
    obtain ⟨vv, x4, x4s⟩ := open_vals (v := c7) q3 (fp 3 _ _ rfl rfl)
    simp [str1] at e0 e1 e4 e6
    subst e0 e1 e4 e6
    exact ⟨⟨k, nm, c2, c3, sc, c5, t, c7, kc, vc, kv, vv⟩, rfl, ⟨ok64_of wk, hs1, ⟨x1, x2, x3, x4, fun c hc => Nat.le_trans (x1s c hc) (by decide), fun c hc => Nat.le_trans (x3s c hc) (by decide), fun c hc => Nat.le_trans (x2s c hc) (by decide), fun c hc => Nat.le_trans (x4s c hc) (by decide)⟩, x1n, x3n⟩, x1b, x3b⟩
theorem open_opsB0 {fuel : Nat} {v : Value} {y : DataW H × List MemPlace} (h : DataW.trod enc Try.prog W base spare held fuel 22 [v] = some y) (hf : FitB 22 y.1) : ∃ l, SlAt (fun b => b < W.heap.size) Oc.cells 8 W v l ∧ (∀ x ∈ l, GoodO W x ∧ x.kc.length ≤ 1048576 ∧ x.vc.length ≤ 1048576) ∧ l.length * Try.prog.bytesOf 42 ≤ 140737488355328 ∧ l.length ≤ 1048576 :=
  open_slB (α := Oc) (en := Oc.cells) (k := 8) (Good := fun x => GoodO W x ∧ x.kc.length ≤ 1048576 ∧ x.vc.length ≤ 1048576) Try.underlying22 cells42 (by decide) (fun _ => rfl) (fun n cs y h hf => open_opB h hf) h hf
theorem open_opsB {r : Reach} {b0 : Nat} {v : Value} {d0 : DataW H} {p : List MemPlace} (hv : Value.okWide Try.prog W r b0 22 v) (h : DataW.Trod enc Try.prog W base spare held 22 v d0 p) (hf : Fit 22 d0) (hb : Rows.uptoBulk d0 ≤ 1048576) : ∃ l, SlAt (fun b => b < W.heap.size) Oc.cells 8 W v l ∧ (∀ x ∈ l, GoodO W x) ∧ (∀ x ∈ l, x.kc.length ≤ 1048576 ∧ x.vc.length ≤ 1048576) := by
  obtain ⟨a0, len, cap0, rfl⟩ := okWide_slice Try.underlying22 hv
  obtain ⟨fuel, hfu⟩ := h
  obtain ⟨xs, hx, hg, _⟩ := open_opsB0 hfu ⟨hf, hb⟩
  exact ⟨xs, hx, fun x h => (hg x h).1, fun x h => (hg x h).2⟩
end
end Go.Proofs.Ytmkilckoeaekkaa
