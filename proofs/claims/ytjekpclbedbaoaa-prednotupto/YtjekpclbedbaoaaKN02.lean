/-
  The arguments opened as their types say: a table lies in memory as rows and columns of plain data.
-/
import Derived.Test.YtjekpclbedbaoaaKS13
import Derived.Test.YtjekpclbedbaoaaKS19
import Derived.ProofKit
import Derived.LaidMore
import Derived.OpenShut
import Derived.SizedLaws
import Derived.Deep.Slices
namespace Go.Proofs.Ytjekpclbedbaoaa.TN
open Go.ChangeShapes Go.WideShapes Go.ChangeAt Go.WideMaps Go.WideElems Go.RowKit Go.Joins

theorem own : ownKnob Try.prog.godebug = none := by kernel_rfl
theorem laidOut : laidOutB Try.prog = true := by kernel_rfl
theorem cells3 : Try.prog.cellsOf 3 = 1 := by kernel_rfl
theorem cells9 : Try.prog.cellsOf 9 = 1 := by kernel_rfl
theorem cells22 : Try.prog.cellsOf 22 = 1 := by kernel_rfl
theorem cells23 : Try.prog.cellsOf 23 = 1 := by kernel_rfl
theorem cells25 : Try.prog.cellsOf 25 = 2 := by kernel_rfl
theorem cells35 : Try.prog.cellsOf 48 = 1 := by kernel_rfl
theorem cells45 : Try.prog.cellsOf 57 = 2 := by kernel_rfl
theorem cells46 : Try.prog.cellsOf 38 = 8 := by kernel_rfl
theorem cells48 : Try.prog.cellsOf 40 = 11 := by kernel_rfl
theorem bytes35 : Try.prog.bytesOf 48 = bsz 1 := by kernel_rfl
theorem bytes45 : Try.prog.bytesOf 57 = bsz 2 := by kernel_rfl
theorem bytes48 : Try.prog.bytesOf 40 = bsz 11 := by kernel_rfl
def Ok64 (n : Int) : Prop := -9223372036854775808 ≤ n ∧ n ≤ 9223372036854775807
theorem ok64_of {n : Int} (h : (Lit.int .i64 n).wf = true) : Ok64 n := by
  have e1 : IntKind.i64.min = -9223372036854775808 := rfl
  have e2 : IntKind.i64.max = 9223372036854775807 := rfl
  simp [Lit.wf, e1, e2] at h
  exact h
/- Each string and each slice of it takes no more than the form's reach. -/
def Fit {H : Type} (t : TypeId) (d : DataW H) : Prop := ∀ n ∈ d.weights Try.prog t, n ≤ reachBytes
theorem weightsAll_mem {H : Type} {e : TypeId} : ∀ {l : List (DataW H)} {d : DataW H}, d ∈ l → ∀ n ∈ d.weights Try.prog e, n ∈ DataW.weightsAll Try.prog e l
  | d' :: r, d, hd, n, hn => by
    simp only [DataW.weightsAll, List.mem_append]
    rcases List.mem_cons.1 hd with rfl | h
    · exact Or.inl hn
    · exact Or.inr (weightsAll_mem h n hn)
section
variable {H : Type} {enc : TypeId × Value → H} {W : World} {base : Nat} {spare : Nat → Bool} {held : Bool}
theorem fit_elem {t e : TypeId} (ht : Try.prog.underlying t = some (.slice e)) {es sp : List (DataW H)} (hf : Fit t (.slice es sp)) : (∀ d ∈ es, Fit e d) ∧ es.length * Try.prog.bytesOf e ≤ 140737488355328 := by
  constructor
  · intro d hd n hn
    exact hf n (by simp only [DataW.weights, ht, List.mem_cons, List.mem_append]; exact Or.inr (Or.inl (weightsAll_mem hd n hn)))
  · have := hf ((es.length + sp.length) * Try.prog.bytesOf e) (by simp only [DataW.weights, ht]; exact List.mem_cons_self ..)
    unfold reachBytes at this
    have h2 : es.length * Try.prog.bytesOf e ≤ (es.length + sp.length) * Try.prog.bytesOf e := Nat.mul_le_mul_right _ (Nat.le_add_right _ _)
    omega
/- A slice, elements that open one by one. -/
theorem open_sl {α : Type} [Inhabited α] {en : α → List Value} {k : Nat} {Good : α → Prop} {t e : TypeId} (ht : Try.prog.underlying t = some (.slice e)) (hc : Try.prog.cellsOf e = k) (hk : 0 < k) (hen : ∀ x, (en x).length = k) (hb : Try.prog.bytesOf e ≥ bsz k)
    (each : ∀ n cs (y : DataW H × List MemPlace), DataW.trod enc Try.prog W base spare held n e cs = some y → Fit e y.1 → ∃ x, cs = en x ∧ Good x) {fuel : Nat} {v : Value} {y : DataW H × List MemPlace}
    (h : DataW.trod enc Try.prog W base spare held fuel t [v] = some y) (hf : Fit t y.1) : ∃ xs, SlAt any en k W v xs ∧ ∀ x ∈ xs, Good x := by
  rcases Deep.open_slice ht h with ⟨hcs, _⟩ | ⟨a, len, cap, m, n, D, Pl, hcs, hba, hl, hm, hmm, hx, hall⟩
  · cases hcs
    exact ⟨[], SlAt.nil _ _ _ _, fun x hx => by cases hx⟩
  · cases hcs
    subst hx
    have hlm : len ≤ m := by rw [hmm]; split <;> omega
    obtain ⟨hfe, hbe⟩ := fit_elem ht hf
    obtain ⟨X, hX⟩ := Deep.choose_lt (α := α) (n := len) (p := fun i x => W.cells? base (a.add (i * k)) k = some (en x) ∧ Good x) (fun i hi => by
      obtain ⟨cs', h1, h2⟩ := hall i (by omega)
      rw [hc] at h1
      obtain ⟨x, rfl, hg⟩ := each n cs' _ h2 (hfe _ (List.mem_map.2 ⟨i, List.mem_range.2 hi, rfl⟩))
      exact ⟨x, h1, hg⟩)
    have hlen : ((List.range len).map X).length = len := by simp
    refine ⟨(List.range len).map X, ⟨some a, cap, by rw [hlen], ⟨by rw [hlen]; exact hl, fun e => by cases e⟩, by rw [hlen]; omega, fun hne => ?_⟩, ?_⟩
    · have h0 : 0 < len := Nat.pos_of_ne_zero (fun e => hne (by rw [e]; rfl))
      obtain ⟨b, off, spot⟩ := a
      have hsp : spot = none := by
        have h1 := (World.cells?_some (hX 0 h0).1).2.2 0 hk
        rw [Nat.zero_mul] at h1
        have h2 : (en (X 0))[0]? = some ((en (X 0))[0]'(by rw [hen]; exact hk)) := List.getElem?_eq_getElem _
        rw [h2] at h1
        simpa [Addr.add] using World.cell?_spot h1
      subst hsp
      refine ⟨b, off, rfl, ⟨trivial, ?_⟩, fun j x hj i u hu => ?_⟩
      · rw [hlen]
        simp only [List.length_map, List.length_range] at hbe
        exact Nat.le_trans (Nat.mul_le_mul_left _ hb) hbe
      · have hj' : j < len := by have := (List.getElem?_eq_some_iff.1 hj).1; rwa [hlen] at this
        have hxj : X j = x := by simpa [List.getElem?_map, List.getElem?_range hj'] using hj
        subst hxj
        have hi : i < k := by have := (List.getElem?_eq_some_iff.1 hu).1; rwa [hen] at this
        have h1 := (World.cells?_some (hX j hj').1).2.2 i hi
        rw [hu, Addr.add_lit, Addr.add_lit] at h1
        exact h1
    · intro x hx
      obtain ⟨i, hi, rfl⟩ := List.mem_map.1 hx
      exact (hX i (List.mem_range.1 hi)).2
set_option maxRecDepth 100000 in
theorem open_cells8 {m : Nat} {cs : List Value} {y : DataW H × List MemPlace} (h : DataW.trod enc Try.prog W base spare held m 38 cs = some y) :
    ∃ a0 a1 a2 a3 a4 a5 a6 a7 : Int, cs = [.int .i64 a0, .int .i64 a1, .int .i64 a2, .int .i64 a3, .int .i64 a4, .int .i64 a5, .int .i64 a6, .int .i64 a7] := by
  obtain ⟨xs, m1, rfl, hx1, hlen, hn, hel⟩ := DataW.trod_array Try.underlying38 h
  rw [cells46] at hlen
  rw [cells3] at hel
  match cs, hlen with
  | [c0, c1, c2, c3, c4, c5, c6, c7], _ =>
    match xs, hn with
    | [x0, x1, x2, x3, x4, x5, x6, x7], _ =>
      obtain ⟨a0, e0, _⟩ := DataW.trod_int Try.underlying3 (show DataW.trod enc Try.prog W base spare held m1 3 _ = some x0 from hel 0 (by decide))
      obtain ⟨a1, e1, _⟩ := DataW.trod_int Try.underlying3 (show DataW.trod enc Try.prog W base spare held m1 3 _ = some x1 from hel 1 (by decide))
      obtain ⟨a2, e2, _⟩ := DataW.trod_int Try.underlying3 (show DataW.trod enc Try.prog W base spare held m1 3 _ = some x2 from hel 2 (by decide))
      obtain ⟨a3, e3, _⟩ := DataW.trod_int Try.underlying3 (show DataW.trod enc Try.prog W base spare held m1 3 _ = some x3 from hel 3 (by decide))
      obtain ⟨a4, e4, _⟩ := DataW.trod_int Try.underlying3 (show DataW.trod enc Try.prog W base spare held m1 3 _ = some x4 from hel 4 (by decide))
      obtain ⟨a5, e5, _⟩ := DataW.trod_int Try.underlying3 (show DataW.trod enc Try.prog W base spare held m1 3 _ = some x5 from hel 5 (by decide))
      obtain ⟨a6, e6, _⟩ := DataW.trod_int Try.underlying3 (show DataW.trod enc Try.prog W base spare held m1 3 _ = some x6 from hel 6 (by decide))
      obtain ⟨a7, e7, _⟩ := DataW.trod_int Try.underlying3 (show DataW.trod enc Try.prog W base spare held m1 3 _ = some x7 from hel 7 (by decide))
      simp at e0 e1 e2 e3 e4 e5 e6 e7
      subst e0 e1 e2 e3 e4 e5 e6 e7
      exact ⟨a0, a1, a2, a3, a4, a5, a6, a7, rfl⟩
set_option maxRecDepth 100000 in
theorem open_val {m : Nat} {cs : List Value} {y : DataW H × List MemPlace} (h : DataW.trod enc Try.prog W base spare held m 40 cs = some y) : ∃ x : Vl, cs = x.cells := by
  obtain ⟨y0, y1, y2, y3, n, hx, hl, h0, h1, h2, h3⟩ := trod_struct4 Try.underlying40 h
  rw [cells48] at hl
  replace h0 : DataW.trod enc Try.prog W base spare held n 3 ((cs.drop 0).take (Try.prog.cellsOf 3)) = some y0 := h0
  replace h1 : DataW.trod enc Try.prog W base spare held n 3 ((cs.drop 1).take (Try.prog.cellsOf 3)) = some y1 := h1
  replace h2 : DataW.trod enc Try.prog W base spare held n 9 ((cs.drop 2).take (Try.prog.cellsOf 9)) = some y2 := h2
  replace h3 : DataW.trod enc Try.prog W base spare held n 38 ((cs.drop 3).take (Try.prog.cellsOf 38)) = some y3 := h3
  rw [cells3] at h0 h1
  rw [cells9] at h2
  rw [cells46] at h3
  match cs, hl with
  | [c0, c1, c2, c3, c4, c5, c6, c7, c8, c9, c10], _ =>
    obtain ⟨k, e0, _⟩ := DataW.trod_int Try.underlying3 h0
    obtain ⟨n, e1, _⟩ := DataW.trod_int Try.underlying3 h1
    obtain ⟨s, e2, _, w2⟩ := DataW.trod_string Try.underlying9 h2
    obtain ⟨a0, a1, a2, a3, a4, a5, a6, a7, e3⟩ := open_cells8 h3
    simp at e0 e1 e2 e3
    obtain ⟨e3, e4, e5, e6, e7, e8, e9, e10⟩ := e3
    subst e0 e1 e2 e3 e4 e5 e6 e7 e8 e9 e10
    exact ⟨⟨k, n, s, a0, a1, a2, a3, a4, a5, a6, a7, w2⟩, rfl⟩
theorem open_col {m : Nat} {cs : List Value} {y : DataW H × List MemPlace} (h : DataW.trod enc Try.prog W base spare held m 57 cs = some y) : ∃ x : Cl, cs = x.cells := by
  obtain ⟨y0, y1, n, hx, hl, h0, h1⟩ := trod_struct2 Try.underlying57 h
  rw [cells45] at hl
  replace h0 : DataW.trod enc Try.prog W base spare held n 9 ((cs.drop 0).take (Try.prog.cellsOf 9)) = some y0 := h0
  replace h1 : DataW.trod enc Try.prog W base spare held n 3 ((cs.drop 1).take (Try.prog.cellsOf 3)) = some y1 := h1
  rw [cells9] at h0
  rw [cells3] at h1
  match cs, hl with
  | [c0, c1], _ =>
    obtain ⟨s, e0, _, w0⟩ := DataW.trod_string Try.underlying9 h0
    obtain ⟨k, e1, _⟩ := DataW.trod_int Try.underlying3 h1
    simp at e0 e1
    subst e0 e1
    exact ⟨⟨s, k, w0⟩, rfl⟩
instance : Inhabited Vl := ⟨⟨0, 0, ⟨#[]⟩, 0, 0, 0, 0, 0, 0, 0, 0, by decide⟩⟩
theorem open_row {fuel : Nat} {v : Value} {y : DataW H × List MemPlace} (h : DataW.trod enc Try.prog W base spare held fuel 48 [v] = some y) (hf : Fit 48 y.1) : ∃ r : Rw, RowAt W v r := by
  obtain ⟨r, hr, _⟩ := open_sl (α := Vl) (en := Vl.cells) (k := 11) (Good := fun _ => True) Try.underlying48 cells48 (by decide) vl_len (by rw [bytes48]; exact Nat.le_refl _) (fun n cs y h _ => let ⟨x, hx⟩ := open_val h; ⟨x, hx, trivial⟩) h hf
  exact ⟨r, hr⟩
theorem open_cols {fuel : Nat} {v : Value} {y : DataW H × List MemPlace} (h : DataW.trod enc Try.prog W base spare held fuel 22 [v] = some y) (hf : Fit 22 y.1) : ∃ cs : List Cl, ColsAt W v cs := by
  obtain ⟨r, hr, _⟩ := open_sl (α := Cl) (en := Cl.cells) (k := 2) (Good := fun _ => True) Try.underlying22 cells45 (by decide) cl_len (by rw [bytes45]; exact Nat.le_refl _) (fun n cs y h _ => let ⟨x, hx⟩ := open_col h; ⟨x, hx, trivial⟩) h hf
  exact ⟨r, hr⟩
def enP (x : Value × Rw) : List Value := [x.1]
instance : Inhabited (Value × Rw) := ⟨(.bool false, [])⟩
theorem open_rows {fuel : Nat} {v : Value} {y : DataW H × List MemPlace} (h : DataW.trod enc Try.prog W base spare held fuel 23 [v] = some y) (hf : Fit 23 y.1) : ∃ rs : List Rw, RowsAt W v rs := by
  obtain ⟨xs, ⟨p, cap, hv, hc, hm, hx⟩, hg⟩ := open_sl (α := Value × Rw) (en := enP) (k := 1) (Good := fun x => RowAt W x.1 x.2) Try.underlying23 cells35 (by decide) (fun _ => rfl) (by rw [bytes35]; exact Nat.le_refl _) (fun n cs y h hf => by
    have hl : cs.length = 1 := by rcases DataW.trod_slice Try.underlying48 h with ⟨e, _⟩ | ⟨_, _, _, _, _, _, _, e, _⟩ <;> (subst e; rfl)
    match cs, hl with
    | [u], _ =>
      obtain ⟨r, hr⟩ := open_row h hf
      exact ⟨(u, r), rfl, hr⟩) h hf
  refine ⟨xs.map (·.2), xs.map (·.1), ⟨p, cap, by rw [List.length_map]; exact hv, by rw [List.length_map]; exact hc, by rw [List.length_map]; exact hm, fun hne => ?_⟩, by simp, fun j u r h1 h2 => ?_⟩
  · obtain ⟨b, o, hp, hQ, hj⟩ := hx (by intro e; subst e; simp at hne)
    refine ⟨b, o, hp, by rw [List.length_map]; exact hQ, fun j u hju => ?_⟩
    rw [List.getElem?_map] at hju
    cases hxj : xs[j]? with
    | none => rw [hxj] at hju; cases hju
    | some x => rw [hxj] at hju; cases hju; exact hj j x hxj
  · rw [List.getElem?_map] at h1 h2
    cases hxj : xs[j]? with
    | none => rw [hxj] at h1; cases h1
    | some x =>
      rw [hxj] at h1 h2
      cases h1; cases h2
      exact hg x (List.mem_of_getElem? hxj)
set_option maxRecDepth 100000 in
theorem open_tab {r : Reach} {b0 : Nat} {v : Value} {d : DataW H} {p : List MemPlace} (hv : Value.okWide Try.prog W r b0 25 v) (h : DataW.Trod enc Try.prog W base spare held 25 v d p) (hf : Fit 25 d) : ∃ cs rs, TabAt W v cs rs := by
  obtain ⟨cs, rfl, hsz⟩ := okWide_struct Try.underlying25 hv
  obtain ⟨fuel, hfu⟩ := h
  obtain ⟨y0, y1, n, hx, hl, h0, h1⟩ := trod_struct2 Try.underlying25 hfu
  rw [cells25] at hl
  obtain ⟨l⟩ := cs
  replace hl : l.length = 2 := hl
  replace h0 : DataW.trod enc Try.prog W base spare held n 22 ((l.drop 0).take (Try.prog.cellsOf 22)) = some y0 := h0
  replace h1 : DataW.trod enc Try.prog W base spare held n 23 ((l.drop 1).take (Try.prog.cellsOf 23)) = some y1 := h1
  rw [cells22] at h0
  rw [cells23] at h1
  cases hx
  match l, hl with
  | [c, q], _ =>
    have f0 : Fit 22 y0.1 := fun m hm => hf m (by simp only [DataW.weights, Try.underlying25]; exact DataW.weights_mem_each (j := 0) (t := 22) rfl rfl m hm)
    have f1 : Fit 23 y1.1 := fun m hm => hf m (by simp only [DataW.weights, Try.underlying25]; exact DataW.weights_mem_each (j := 1) (t := 23) rfl rfl m hm)
    obtain ⟨cl, hc⟩ := open_cols h0 f0
    obtain ⟨rs, hr⟩ := open_rows h1 f1
    exact ⟨cl, rs, c, q, rfl, hc, hr⟩
set_option maxRecDepth 100000 in
theorem fit_of {ts : List TypeId} {ds : List (DataW H)} (h : (DataW.weightsEach Try.prog ts ds).all (· ≤ reachBytes) = true) {j : Nat} {t : TypeId} {d : DataW H} (ht : ts[j]? = some t) (hd : ds[j]? = some d) : Fit t d := fun n hn => by
  exact of_decide_eq_true (List.all_eq_true.1 h n (DataW.weights_mem_each ht hd n hn))
end
end Go.Proofs.Ytjekpclbedbaoaa.TN
