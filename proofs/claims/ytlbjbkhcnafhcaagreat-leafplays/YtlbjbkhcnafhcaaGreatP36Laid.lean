/-
  The arguments opened as their types say: a table lies in memory as rows and columns of plain data.
  Arguments of schema's statements opened as their types say.
  Arguments of wire's statements opened as their types say.
  Points as an argument: how they lie, and the argument opened as its type says.
-/
import Derived.Test.YtlbjbkhcnafhcaaGreatP03CrcOwn
import Derived.Test.YtlbjbkhcnafhcaaGreatP20ShelfSort
import Derived.Test.YtlbjbkhcnafhcaaGreatP17RnGet
import Derived.Test.YtlbjbkhcnafhcaaGreatP05Take
import Derived.ProofKit
import Derived.LaidMore
import Derived.OpenShut
import Derived.SizedLaws
import Derived.Deep.Slices
import Derived.Deep.Strs
namespace Go.Proofs.YtlbjbkhcnafhcaaGreat
open Go.ChangeShapes Go.WideShapes Go.ChangeAt Go.WideMaps Go.WideElems Go.RowKit Go.Joins

theorem own : ownKnob Tryz.prog.godebug = none := by kernel_rfl
theorem laidOut : laidOutB Tryz.prog = true := by kernel_rfl
theorem cells3 : Tryz.prog.cellsOf 3 = 1 := by kernel_rfl
theorem cells9 : Tryz.prog.cellsOf 9 = 1 := by kernel_rfl
theorem cells22 : Tryz.prog.cellsOf 41 = 1 := by kernel_rfl
theorem cells23 : Tryz.prog.cellsOf 42 = 1 := by kernel_rfl
theorem cells25 : Tryz.prog.cellsOf 44 = 2 := by kernel_rfl
theorem cells35 : Tryz.prog.cellsOf 32 = 1 := by kernel_rfl
theorem cells45 : Tryz.prog.cellsOf 90 = 2 := by kernel_rfl
theorem cells46 : Tryz.prog.cellsOf 38 = 8 := by kernel_rfl
theorem cells48 : Tryz.prog.cellsOf 40 = 11 := by kernel_rfl
theorem bytes35 : Tryz.prog.bytesOf 32 = bsz 1 := by kernel_rfl
theorem bytes45 : Tryz.prog.bytesOf 90 = bsz 2 := by kernel_rfl
theorem bytes48 : Tryz.prog.bytesOf 40 = bsz 11 := by kernel_rfl
def Ok64 (n : Int) : Prop := -9223372036854775808 ≤ n ∧ n ≤ 9223372036854775807
theorem ok64_of {n : Int} (h : (Lit.int .i64 n).wf = true) : Ok64 n := by
  have e1 : IntKind.i64.min = -9223372036854775808 := rfl
  have e2 : IntKind.i64.max = 9223372036854775807 := rfl
  simp [Lit.wf, e1, e2] at h
  exact h
/- Each string and each slice of it takes no more than the form's reach. -/
def Fit {H : Type} (t : TypeId) (d : DataW H) : Prop := ∀ n ∈ d.weights Tryz.prog t, n ≤ reachBytes
theorem weightsAll_mem {H : Type} {e : TypeId} : ∀ {l : List (DataW H)} {d : DataW H}, d ∈ l → ∀ n ∈ d.weights Tryz.prog e, n ∈ DataW.weightsAll Tryz.prog e l
  | d' :: r, d, hd, n, hn => by
    simp only [DataW.weightsAll, List.mem_append]
    rcases List.mem_cons.1 hd with rfl | h
    · exact Or.inl hn
    · exact Or.inr (weightsAll_mem h n hn)
section
variable {H : Type} {enc : TypeId × Value → H} {W : World} {base : Nat} {spare : Nat → Bool} {held : Bool}
theorem fit_elem {t e : TypeId} (ht : Tryz.prog.underlying t = some (.slice e)) {es sp : List (DataW H)} (hf : Fit t (.slice es sp)) : (∀ d ∈ es, Fit e d) ∧ es.length * Tryz.prog.bytesOf e ≤ 140737488355328 := by
  constructor
  · intro d hd n hn
    exact hf n (by simp only [DataW.weights, ht, List.mem_cons, List.mem_append]; exact Or.inr (Or.inl (weightsAll_mem hd n hn)))
  · have := hf ((es.length + sp.length) * Tryz.prog.bytesOf e) (by simp only [DataW.weights, ht]; exact List.mem_cons_self ..)
    unfold reachBytes at this
    have h2 : es.length * Tryz.prog.bytesOf e ≤ (es.length + sp.length) * Tryz.prog.bytesOf e := Nat.mul_le_mul_right _ (Nat.le_add_right _ _)
    omega
/- A slice, elements that open one by one. -/
theorem open_sl {α : Type} [Inhabited α] {en : α → List Value} {k : Nat} {Good : α → Prop} {t e : TypeId} (ht : Tryz.prog.underlying t = some (.slice e)) (hc : Tryz.prog.cellsOf e = k) (hk : 0 < k) (hen : ∀ x, (en x).length = k) (hb : Tryz.prog.bytesOf e ≥ bsz k)
    (each : ∀ n cs (y : DataW H × List MemPlace), DataW.trod enc Tryz.prog W base spare held n e cs = some y → Fit e y.1 → ∃ x, cs = en x ∧ Good x) {fuel : Nat} {v : Value} {y : DataW H × List MemPlace}
    (h : DataW.trod enc Tryz.prog W base spare held fuel t [v] = some y) (hf : Fit t y.1) : ∃ xs, SlAt any en k W v xs ∧ ∀ x ∈ xs, Good x := by
  rcases Deep.open_slice ht h with ⟨hcs, _⟩ | ⟨a, len, cap, m, n, D, Pl, hcs, hba, hl, hm, hmm, hx, hall⟩
  · cases hcs
    exact ⟨[], SlAt.nil _ _ _ _, fun x hx => by cases hx⟩
  · cases hcs
    subst hx
    have hlm : len ≤ m := by rw [hmm]; split <;> omega
    obtain ⟨hfe, hbe⟩ := fit_elem ht hf
    obtain ⟨X, hX⟩ := Deep.choose_lt (α := α) (n := len) (p := fun i x => W.cells? base (a.add (i * k)) k = some (en x) ∧ Good x) (fun i hi => by
      obtain ⟨cs', h1, h2⟩ := hall i (by omega)
      rw [hc] at h1
      obtain ⟨x, rfl, hg⟩ := each n cs' _ h2 (hfe _ (List.mem_map.2 ⟨i, List.mem_range.2 hi, rfl⟩))
      exact ⟨x, h1, hg⟩)
    have hlen : ((List.range len).map X).length = len := by simp
    refine ⟨(List.range len).map X, ⟨some a, cap, by rw [hlen], ⟨by rw [hlen]; exact hl, fun e => by cases e⟩, by rw [hlen]; omega, fun hne => ?_⟩, ?_⟩
    · have h0 : 0 < len := Nat.pos_of_ne_zero (fun e => hne (by rw [e]; rfl))
      obtain ⟨b, off, spot⟩ := a
      have hsp : spot = none := by
        have h1 := (World.cells?_some (hX 0 h0).1).2.2 0 hk
        rw [Nat.zero_mul] at h1
        have h2 : (en (X 0))[0]? = some ((en (X 0))[0]'(by rw [hen]; exact hk)) := List.getElem?_eq_getElem _
        rw [h2] at h1
        simpa [Addr.add] using World.cell?_spot h1
      subst hsp
      refine ⟨b, off, rfl, ⟨trivial, ?_⟩, fun j x hj i u hu => ?_⟩
      · rw [hlen]
        simp only [List.length_map, List.length_range] at hbe
        exact Nat.le_trans (Nat.mul_le_mul_left _ hb) hbe
      · have hj' : j < len := by have := (List.getElem?_eq_some_iff.1 hj).1; rwa [hlen] at this
        have hxj : X j = x := by simpa [List.getElem?_map, List.getElem?_range hj'] using hj
        subst hxj
        have hi : i < k := by have := (List.getElem?_eq_some_iff.1 hu).1; rwa [hen] at this
        have h1 := (World.cells?_some (hX j hj').1).2.2 i hi
        rw [hu, Addr.add_lit, Addr.add_lit] at h1
        exact h1
    · intro x hx
      obtain ⟨i, hi, rfl⟩ := List.mem_map.1 hx
      exact (hX i (List.mem_range.1 hi)).2
set_option maxRecDepth 100000 in
theorem open_cells8 {m : Nat} {cs : List Value} {y : DataW H × List MemPlace} (h : DataW.trod enc Tryz.prog W base spare held m 38 cs = some y) :
    ∃ a0 a1 a2 a3 a4 a5 a6 a7 : Int, cs = [.int .i64 a0, .int .i64 a1, .int .i64 a2, .int .i64 a3, .int .i64 a4, .int .i64 a5, .int .i64 a6, .int .i64 a7] := by
  obtain ⟨xs, m1, rfl, hx1, hlen, hn, hel⟩ := DataW.trod_array Tryz.underlying38 h
  rw [cells46] at hlen
  rw [cells3] at hel
  match cs, hlen with
  | [c0, c1, c2, c3, c4, c5, c6, c7], _ =>
    match xs, hn with
    | [x0, x1, x2, x3, x4, x5, x6, x7], _ =>
      obtain ⟨a0, e0, _⟩ := DataW.trod_int Tryz.underlying3 (show DataW.trod enc Tryz.prog W base spare held m1 3 _ = some x0 from hel 0 (by decide))
      obtain ⟨a1, e1, _⟩ := DataW.trod_int Tryz.underlying3 (show DataW.trod enc Tryz.prog W base spare held m1 3 _ = some x1 from hel 1 (by decide))
      obtain ⟨a2, e2, _⟩ := DataW.trod_int Tryz.underlying3 (show DataW.trod enc Tryz.prog W base spare held m1 3 _ = some x2 from hel 2 (by decide))
      obtain ⟨a3, e3, _⟩ := DataW.trod_int Tryz.underlying3 (show DataW.trod enc Tryz.prog W base spare held m1 3 _ = some x3 from hel 3 (by decide))
      obtain ⟨a4, e4, _⟩ := DataW.trod_int Tryz.underlying3 (show DataW.trod enc Tryz.prog W base spare held m1 3 _ = some x4 from hel 4 (by decide))
      obtain ⟨a5, e5, _⟩ := DataW.trod_int Tryz.underlying3 (show DataW.trod enc Tryz.prog W base spare held m1 3 _ = some x5 from hel 5 (by decide))
      obtain ⟨a6, e6, _⟩ := DataW.trod_int Tryz.underlying3 (show DataW.trod enc Tryz.prog W base spare held m1 3 _ = some x6 from hel 6 (by decide))
      obtain ⟨a7, e7, _⟩ := DataW.trod_int Tryz.underlying3 (show DataW.trod enc Tryz.prog W base spare held m1 3 _ = some x7 from hel 7 (by decide))
      simp at e0 e1 e2 e3 e4 e5 e6 e7
      subst e0 e1 e2 e3 e4 e5 e6 e7
      exact ⟨a0, a1, a2, a3, a4, a5, a6, a7, rfl⟩
set_option maxRecDepth 100000 in
theorem open_val {m : Nat} {cs : List Value} {y : DataW H × List MemPlace} (h : DataW.trod enc Tryz.prog W base spare held m 40 cs = some y) : ∃ x : Vl, cs = x.cells := by
  obtain ⟨y0, y1, y2, y3, n, hx, hl, h0, h1, h2, h3⟩ := trod_struct4 Tryz.underlying40 h
  rw [cells48] at hl
  replace h0 : DataW.trod enc Tryz.prog W base spare held n 3 ((cs.drop 0).take (Tryz.prog.cellsOf 3)) = some y0 := h0
  replace h1 : DataW.trod enc Tryz.prog W base spare held n 3 ((cs.drop 1).take (Tryz.prog.cellsOf 3)) = some y1 := h1
  replace h2 : DataW.trod enc Tryz.prog W base spare held n 9 ((cs.drop 2).take (Tryz.prog.cellsOf 9)) = some y2 := h2
  replace h3 : DataW.trod enc Tryz.prog W base spare held n 38 ((cs.drop 3).take (Tryz.prog.cellsOf 38)) = some y3 := h3
  rw [cells3] at h0 h1
  rw [cells9] at h2
  rw [cells46] at h3
  match cs, hl with
  | [c0, c1, c2, c3, c4, c5, c6, c7, c8, c9, c10], _ =>
    obtain ⟨k, e0, _⟩ := DataW.trod_int Tryz.underlying3 h0
    obtain ⟨n, e1, _⟩ := DataW.trod_int Tryz.underlying3 h1
    obtain ⟨s, e2, _, w2⟩ := DataW.trod_string Tryz.underlying9 h2
    obtain ⟨a0, a1, a2, a3, a4, a5, a6, a7, e3⟩ := open_cells8 h3
    simp at e0 e1 e2 e3
    obtain ⟨e3, e4, e5, e6, e7, e8, e9, e10⟩ := e3
    subst e0 e1 e2 e3 e4 e5 e6 e7 e8 e9 e10
    exact ⟨⟨k, n, s, a0, a1, a2, a3, a4, a5, a6, a7, w2⟩, rfl⟩
theorem open_col {m : Nat} {cs : List Value} {y : DataW H × List MemPlace} (h : DataW.trod enc Tryz.prog W base spare held m 90 cs = some y) : ∃ x : Cl, cs = x.cells := by
  obtain ⟨y0, y1, n, hx, hl, h0, h1⟩ := trod_struct2 Tryz.underlying90 h
  rw [cells45] at hl
  replace h0 : DataW.trod enc Tryz.prog W base spare held n 9 ((cs.drop 0).take (Tryz.prog.cellsOf 9)) = some y0 := h0
  replace h1 : DataW.trod enc Tryz.prog W base spare held n 3 ((cs.drop 1).take (Tryz.prog.cellsOf 3)) = some y1 := h1
  rw [cells9] at h0
  rw [cells3] at h1
  match cs, hl with
  | [c0, c1], _ =>
    obtain ⟨s, e0, _, w0⟩ := DataW.trod_string Tryz.underlying9 h0
    obtain ⟨k, e1, _⟩ := DataW.trod_int Tryz.underlying3 h1
    simp at e0 e1
    subst e0 e1
    exact ⟨⟨s, k, w0⟩, rfl⟩
instance : Inhabited Vl := ⟨⟨0, 0, ⟨#[]⟩, 0, 0, 0, 0, 0, 0, 0, 0, by decide⟩⟩
theorem open_row {fuel : Nat} {v : Value} {y : DataW H × List MemPlace} (h : DataW.trod enc Tryz.prog W base spare held fuel 32 [v] = some y) (hf : Fit 32 y.1) : ∃ r : Rw, RowAt W v r := by
  obtain ⟨r, hr, _⟩ := open_sl (α := Vl) (en := Vl.cells) (k := 11) (Good := fun _ => True) Tryz.underlying32 cells48 (by decide) vl_len (by rw [bytes48]; exact Nat.le_refl _) (fun n cs y h _ => let ⟨x, hx⟩ := open_val h; ⟨x, hx, trivial⟩) h hf
  exact ⟨r, hr⟩
theorem open_cols {fuel : Nat} {v : Value} {y : DataW H × List MemPlace} (h : DataW.trod enc Tryz.prog W base spare held fuel 41 [v] = some y) (hf : Fit 41 y.1) : ∃ cs : List Cl, ColsAt W v cs := by
  obtain ⟨r, hr, _⟩ := open_sl (α := Cl) (en := Cl.cells) (k := 2) (Good := fun _ => True) Tryz.underlying41 cells45 (by decide) cl_len (by rw [bytes45]; exact Nat.le_refl _) (fun n cs y h _ => let ⟨x, hx⟩ := open_col h; ⟨x, hx, trivial⟩) h hf
  exact ⟨r, hr⟩
def enP (x : Value × Rw) : List Value := [x.1]
instance : Inhabited (Value × Rw) := ⟨(.bool false, [])⟩
theorem open_rows {fuel : Nat} {v : Value} {y : DataW H × List MemPlace} (h : DataW.trod enc Tryz.prog W base spare held fuel 42 [v] = some y) (hf : Fit 42 y.1) : ∃ rs : List Rw, RowsAt W v rs := by
  obtain ⟨xs, ⟨p, cap, hv, hc, hm, hx⟩, hg⟩ := open_sl (α := Value × Rw) (en := enP) (k := 1) (Good := fun x => RowAt W x.1 x.2) Tryz.underlying42 cells35 (by decide) (fun _ => rfl) (by rw [bytes35]; exact Nat.le_refl _) (fun n cs y h hf => by
    have hl : cs.length = 1 := by rcases DataW.trod_slice Tryz.underlying32 h with ⟨e, _⟩ | ⟨_, _, _, _, _, _, _, e, _⟩ <;> (subst e; rfl)
    match cs, hl with
    | [u], _ =>
      obtain ⟨r, hr⟩ := open_row h hf
      exact ⟨(u, r), rfl, hr⟩) h hf
  refine ⟨xs.map (·.2), xs.map (·.1), ⟨p, cap, by rw [List.length_map]; exact hv, by rw [List.length_map]; exact hc, by rw [List.length_map]; exact hm, fun hne => ?_⟩, by simp, fun j u r h1 h2 => ?_⟩
  · obtain ⟨b, o, hp, hQ, hj⟩ := hx (by intro e; subst e; simp at hne)
    refine ⟨b, o, hp, by rw [List.length_map]; exact hQ, fun j u hju => ?_⟩
    rw [List.getElem?_map] at hju
    cases hxj : xs[j]? with
    | none => rw [hxj] at hju; cases hju
    | some x => rw [hxj] at hju; cases hju; exact hj j x hxj
  · rw [List.getElem?_map] at h1 h2
    cases hxj : xs[j]? with
    | none => rw [hxj] at h1; cases h1
    | some x =>
      rw [hxj] at h1 h2
      cases h1; cases h2
      exact hg x (List.mem_of_getElem? hxj)
set_option maxRecDepth 100000 in
theorem open_tab {r : Reach} {b0 : Nat} {v : Value} {d : DataW H} {p : List MemPlace} (hv : Value.okWide Tryz.prog W r b0 44 v) (h : DataW.Trod enc Tryz.prog W base spare held 44 v d p) (hf : Fit 44 d) : ∃ cs rs, TabAt W v cs rs := by
  obtain ⟨cs, rfl, hsz⟩ := okWide_struct Tryz.underlying44 hv
  obtain ⟨fuel, hfu⟩ := h
  obtain ⟨y0, y1, n, hx, hl, h0, h1⟩ := trod_struct2 Tryz.underlying44 hfu
  rw [cells25] at hl
  obtain ⟨l⟩ := cs
  replace hl : l.length = 2 := hl
  replace h0 : DataW.trod enc Tryz.prog W base spare held n 41 ((l.drop 0).take (Tryz.prog.cellsOf 41)) = some y0 := h0
  replace h1 : DataW.trod enc Tryz.prog W base spare held n 42 ((l.drop 1).take (Tryz.prog.cellsOf 42)) = some y1 := h1
  rw [cells22] at h0
  rw [cells23] at h1
  cases hx
  match l, hl with
  | [c, q], _ =>
    have f0 : Fit 41 y0.1 := fun m hm => hf m (by simp only [DataW.weights, Tryz.underlying44]; exact DataW.weights_mem_each (j := 0) (t := 41) rfl rfl m hm)
    have f1 : Fit 42 y1.1 := fun m hm => hf m (by simp only [DataW.weights, Tryz.underlying44]; exact DataW.weights_mem_each (j := 1) (t := 42) rfl rfl m hm)
    obtain ⟨cl, hc⟩ := open_cols h0 f0
    obtain ⟨rs, hr⟩ := open_rows h1 f1
    exact ⟨cl, rs, c, q, rfl, hc, hr⟩
set_option maxRecDepth 100000 in
theorem fit_of {ts : List TypeId} {ds : List (DataW H)} (h : (DataW.weightsEach Tryz.prog ts ds).all (· ≤ reachBytes) = true) {j : Nat} {t : TypeId} {d : DataW H} (ht : ts[j]? = some t) (hd : ds[j]? = some d) : Fit t d := fun n hn => by
  exact of_decide_eq_true (List.all_eq_true.1 h n (DataW.weights_mem_each ht hd n hn))
end
end Go.Proofs.YtlbjbkhcnafhcaaGreat
namespace Go.Proofs.YtlbjbkhcnafhcaaGreat
open Go.ChangeShapes Go.WideShapes Go.ChangeAt Go.WideMaps Go.WideElems Go.RowKit Go.Joins

theorem cells56 : Tryz.prog.cellsOf 52 = 3 := by kernel_rfl
theorem cells67 : Tryz.prog.cellsOf 34 = 4 := by kernel_rfl
theorem bytes56 : bsz 3 ≤ Tryz.prog.bytesOf 52 := by
  rw [show Tryz.prog.bytesOf 52 = 64 from by kernel_rfl]
  decide
section
variable {H : Type} {enc : TypeId × Value → H} {W : World} {base : Nat} {spare : Nat → Bool} {held : Bool}
instance : Inhabited (Sh × Sc) := ⟨(default, default)⟩
set_option maxRecDepth 100000 in
theorem open_sc {m : Nat} {cs : List Value} {y : DataW H × List MemPlace} (h : DataW.trod enc Tryz.prog W base spare held m 52 cs = some y) (hf : Fit 52 y.1) : ∃ x : Sh × Sc, cs = x.1.cells ∧ ShIs W x.1 x.2 := by
  obtain ⟨y0, y1, y2, n, hx, hl, h0, h1, h2⟩ := Go.Deep.trod_struct3 Tryz.underlying52 h
  rw [cells56] at hl
  replace h0 : DataW.trod enc Tryz.prog W base spare held n 9 ((cs.drop 0).take (Tryz.prog.cellsOf 9)) = some y0 := h0
  replace h1 : DataW.trod enc Tryz.prog W base spare held n 41 ((cs.drop 1).take (Tryz.prog.cellsOf 41)) = some y1 := h1
  replace h2 : DataW.trod enc Tryz.prog W base spare held n 41 ((cs.drop 2).take (Tryz.prog.cellsOf 41)) = some y2 := h2
  rw [cells9] at h0
  rw [cells22] at h1 h2
  cases hx
  match cs, hl with
  | [c0, c1, c2], _ =>
    have f1 : Fit 41 y1.1 := fun m hm => hf m (by simp only [DataW.weights, Tryz.underlying52]; exact DataW.weights_mem_each (j := 1) (t := 41) rfl rfl m hm)
    have f2 : Fit 41 y2.1 := fun m hm => hf m (by simp only [DataW.weights, Tryz.underlying52]; exact DataW.weights_mem_each (j := 2) (t := 41) rfl rfl m hm)
    obtain ⟨s, e0, _, w0⟩ := DataW.trod_string Tryz.underlying9 h0
    obtain ⟨ks, hk⟩ := open_cols h1 f1
    obtain ⟨vs, hv⟩ := open_cols h2 f2
    simp at e0
    subst e0
    exact ⟨(⟨s, c1, c2⟩, ⟨s, ks, vs, w0⟩), rfl, ⟨rfl, hk, hv⟩⟩
set_option maxRecDepth 100000 in
theorem open_schs {r : Reach} {b0 : Nat} {v : Value} {d : DataW H} {p : List MemPlace} (hv : Value.okWide Tryz.prog W r b0 22 v) (h : DataW.Trod enc Tryz.prog W base spare held 22 v d p) (hf : Fit 22 d) : ∃ l, SchsAt W v l := by
  obtain ⟨a0, len, cap0, rfl⟩ := okWide_slice Tryz.underlying22 hv
  obtain ⟨fuel, hfu⟩ := h
  obtain ⟨xs, ⟨p, cap, hv, hc, hm, hx⟩, hg⟩ := open_sl (α := Sh × Sc) (en := fun x => x.1.cells) (k := 3) (Good := fun x => ShIs W x.1 x.2) Tryz.underlying22 cells56 (by decide) (fun _ => rfl) bytes56 (fun n cs y h hf => open_sc h hf) hfu hf
  refine ⟨xs.map (·.2), xs.map (·.1), ⟨p, cap, by rw [List.length_map]; exact hv, by rw [List.length_map]; exact hc, by rw [List.length_map]; exact hm, fun hne => ?_⟩, by simp, fun j u r h1 h2 => ?_⟩
  · obtain ⟨b, o, hp, hQ, hj⟩ := hx (by intro e; subst e; simp at hne)
    refine ⟨b, o, hp, by rw [List.length_map]; exact hQ, fun j u hju => ?_⟩
    rw [List.getElem?_map] at hju
    cases hxj : xs[j]? with
    | none => rw [hxj] at hju; cases hju
    | some x => rw [hxj] at hju; cases hju; exact hj j x hxj
  · rw [List.getElem?_map] at h1 h2
    cases hxj : xs[j]? with
    | none => rw [hxj] at h1; cases h1
    | some x =>
      rw [hxj] at h1 h2
      cases h1; cases h2
      exact hg x (List.mem_of_getElem? hxj)
set_option maxRecDepth 100000 in
theorem open_pt {r : Reach} {b0 : Nat} {v : Value} {d : DataW H} {p : List MemPlace} (hv : Value.okWide Tryz.prog W r b0 34 v) (h : DataW.Trod enc Tryz.prog W base spare held 34 v d p) (hf : Fit 34 d) : ∃ x : Pt, PtAt W v x := by
  obtain ⟨cs, rfl, hsz⟩ := okWide_struct Tryz.underlying34 hv
  obtain ⟨fuel, hfu⟩ := h
  obtain ⟨y0, y1, y2, y3, n, hx, hl, h0, h1, h2, h3⟩ := trod_struct4 Tryz.underlying34 hfu
  rw [cells67] at hl
  obtain ⟨l⟩ := cs
  replace hl : l.length = 4 := hl
  replace h0 : DataW.trod enc Tryz.prog W base spare held n 9 ((l.drop 0).take (Tryz.prog.cellsOf 9)) = some y0 := h0
  replace h1 : DataW.trod enc Tryz.prog W base spare held n 32 ((l.drop 1).take (Tryz.prog.cellsOf 32)) = some y1 := h1
  replace h2 : DataW.trod enc Tryz.prog W base spare held n 3 ((l.drop 2).take (Tryz.prog.cellsOf 3)) = some y2 := h2
  replace h3 : DataW.trod enc Tryz.prog W base spare held n 32 ((l.drop 3).take (Tryz.prog.cellsOf 32)) = some y3 := h3
  rw [cells9] at h0
  rw [cells35] at h1 h3
  rw [cells3] at h2
  cases hx
  match l, hl with
  | [c0, c1, c2, c3], _ =>
    have f1 : Fit 32 y1.1 := fun m hm => hf m (by simp only [DataW.weights, Tryz.underlying34]; exact DataW.weights_mem_each (j := 1) (t := 32) rfl rfl m hm)
    have f3 : Fit 32 y3.1 := fun m hm => hf m (by simp only [DataW.weights, Tryz.underlying34]; exact DataW.weights_mem_each (j := 3) (t := 32) rfl rfl m hm)
    obtain ⟨s, e0, _, w0⟩ := DataW.trod_string Tryz.underlying9 h0
    obtain ⟨k, e2, _⟩ := DataW.trod_int Tryz.underlying3 h2
    obtain ⟨ks, hk⟩ := open_row h1 f1
    obtain ⟨vs, hv3⟩ := open_row h3 f3
    simp at e0 e2
    subst e0 e2
    exact ⟨⟨s, ks, k, vs, w0⟩, _, _, rfl, hk, hv3⟩
end
end Go.Proofs.YtlbjbkhcnafhcaaGreat
namespace Go.Proofs.YtlbjbkhcnafhcaaGreat.SN
open Go.ChangeShapes Go.WideShapes Go.ChangeAt Go.WideMaps Go.WideElems Go.RowKit Go.Joins

section
variable {H : Type} {enc : TypeId × Value → H} {W : World} {base : Nat} {spare : Nat → Bool} {held : Bool}
set_option maxRecDepth 100000 in
theorem open_cells8R {m : Nat} {cs : List Value} {y : DataW H × List MemPlace} (h : DataW.trod enc Tryz.prog W base spare held m 38 cs = some y) :
    ∃ a0 a1 a2 a3 a4 a5 a6 a7 : Int, cs = [.int .i64 a0, .int .i64 a1, .int .i64 a2, .int .i64 a3, .int .i64 a4, .int .i64 a5, .int .i64 a6, .int .i64 a7] ∧ Rg a0 ∧ Rg a1 ∧ Rg a2 ∧ Rg a3 ∧ Rg a4 ∧ Rg a5 ∧ Rg a6 ∧ Rg a7 := by
  obtain ⟨xs, m1, rfl, hx1, hlen, hn, hel⟩ := DataW.trod_array Tryz.underlying38 h
  rw [cells46] at hlen
  rw [cells3] at hel
  match cs, hlen with
  | [c0, c1, c2, c3, c4, c5, c6, c7], _ =>
    match xs, hn with
    | [x0, x1, x2, x3, x4, x5, x6, x7], _ =>
      obtain ⟨a0, e0, _, w0⟩ := DataW.trod_int Tryz.underlying3 (show DataW.trod enc Tryz.prog W base spare held m1 3 _ = some x0 from hel 0 (by decide))
      obtain ⟨a1, e1, _, w1⟩ := DataW.trod_int Tryz.underlying3 (show DataW.trod enc Tryz.prog W base spare held m1 3 _ = some x1 from hel 1 (by decide))
      obtain ⟨a2, e2, _, w2⟩ := DataW.trod_int Tryz.underlying3 (show DataW.trod enc Tryz.prog W base spare held m1 3 _ = some x2 from hel 2 (by decide))
      obtain ⟨a3, e3, _, w3⟩ := DataW.trod_int Tryz.underlying3 (show DataW.trod enc Tryz.prog W base spare held m1 3 _ = some x3 from hel 3 (by decide))
      obtain ⟨a4, e4, _, w4⟩ := DataW.trod_int Tryz.underlying3 (show DataW.trod enc Tryz.prog W base spare held m1 3 _ = some x4 from hel 4 (by decide))
      obtain ⟨a5, e5, _, w5⟩ := DataW.trod_int Tryz.underlying3 (show DataW.trod enc Tryz.prog W base spare held m1 3 _ = some x5 from hel 5 (by decide))
      obtain ⟨a6, e6, _, w6⟩ := DataW.trod_int Tryz.underlying3 (show DataW.trod enc Tryz.prog W base spare held m1 3 _ = some x6 from hel 6 (by decide))
      obtain ⟨a7, e7, _, w7⟩ := DataW.trod_int Tryz.underlying3 (show DataW.trod enc Tryz.prog W base spare held m1 3 _ = some x7 from hel 7 (by decide))
      simp at e0 e1 e2 e3 e4 e5 e6 e7
      subst e0 e1 e2 e3 e4 e5 e6 e7
      exact ⟨a0, a1, a2, a3, a4, a5, a6, a7, rfl, ok64_of w0, ok64_of w1, ok64_of w2, ok64_of w3, ok64_of w4, ok64_of w5, ok64_of w6, ok64_of w7⟩
set_option maxRecDepth 100000 in
theorem open_valR {m : Nat} {cs : List Value} {y : DataW H × List MemPlace} (h : DataW.trod enc Tryz.prog W base spare held m 40 cs = some y) : ∃ x : Vl, cs = x.cells ∧ Rng x := by
  obtain ⟨y0, y1, y2, y3, n, hx, hl, h0, h1, h2, h3⟩ := trod_struct4 Tryz.underlying40 h
  rw [cells48] at hl
  replace h0 : DataW.trod enc Tryz.prog W base spare held n 3 ((cs.drop 0).take (Tryz.prog.cellsOf 3)) = some y0 := h0
  replace h1 : DataW.trod enc Tryz.prog W base spare held n 3 ((cs.drop 1).take (Tryz.prog.cellsOf 3)) = some y1 := h1
  replace h2 : DataW.trod enc Tryz.prog W base spare held n 9 ((cs.drop 2).take (Tryz.prog.cellsOf 9)) = some y2 := h2
  replace h3 : DataW.trod enc Tryz.prog W base spare held n 38 ((cs.drop 3).take (Tryz.prog.cellsOf 38)) = some y3 := h3
  rw [cells3] at h0 h1
  rw [cells9] at h2
  rw [cells46] at h3
  match cs, hl with
  | [c0, c1, c2, c3, c4, c5, c6, c7, c8, c9, c10], _ =>
    obtain ⟨k, e0, _⟩ := DataW.trod_int Tryz.underlying3 h0
    obtain ⟨n, e1, _, w1⟩ := DataW.trod_int Tryz.underlying3 h1
    obtain ⟨s, e2, _, w2⟩ := DataW.trod_string Tryz.underlying9 h2
    obtain ⟨a0, a1, a2, a3, a4, a5, a6, a7, e3, g⟩ := open_cells8R h3
    simp at e0 e1 e2 e3
    obtain ⟨e3, e4, e5, e6, e7, e8, e9, e10⟩ := e3
    subst e0 e1 e2 e3 e4 e5 e6 e7 e8 e9 e10
    exact ⟨⟨k, n, s, a0, a1, a2, a3, a4, a5, a6, a7, w2⟩, rfl, ⟨ok64_of w1, g.1, g.2.1, g.2.2.1, g.2.2.2.1, g.2.2.2.2.1, g.2.2.2.2.2.1, g.2.2.2.2.2.2.1, g.2.2.2.2.2.2.2⟩⟩
def RngR (r : Rw) : Prop := ∀ x ∈ r, Rng x
theorem open_rowR {fuel : Nat} {v : Value} {y : DataW H × List MemPlace} (h : DataW.trod enc Tryz.prog W base spare held fuel 32 [v] = some y) (hf : Fit 32 y.1) : ∃ r : Rw, RowAt W v r ∧ RngR r := by
  obtain ⟨r, hr, hg⟩ := open_sl (α := Vl) (en := Vl.cells) (k := 11) (Good := Rng) Tryz.underlying32 cells48 (by decide) vl_len (by rw [bytes48]; exact Nat.le_refl _) (fun n cs y h _ => open_valR h) h hf
  exact ⟨r, hr, hg⟩
end
end Go.Proofs.YtlbjbkhcnafhcaaGreat.SN
namespace Go.Proofs.YtlbjbkhcnafhcaaGreat
open Go.ChangeShapes Go.WideShapes Go.ChangeAt Go.WideMaps Go.WideElems Go.RowKit Go.Joins

structure Ph where
  nm : ByteArray
  kv : Value
  tm : Int
  vv : Value
instance : Inhabited Ph := ⟨⟨⟨#[]⟩, .slice none 0 0, 0, .slice none 0 0⟩⟩
def Ph.cells (h : Ph) : List Value := [.string h.nm, h.kv, .int .i64 h.tm, h.vv]
instance : Inhabited Pt := ⟨⟨⟨#[]⟩, [], 0, [], by decide⟩⟩
instance : Inhabited (Ph × Pt) := ⟨(default, default)⟩
def PhIs (W : World) (x : Ph × Pt) : Prop := x.1.nm = x.2.sc ∧ x.1.tm = x.2.tm ∧ RowAt W x.1.kv x.2.ks ∧ RowAt W x.1.vv x.2.vs ∧ (∀ v ∈ x.2.ks, SN.Rng v) ∧ Ok64 x.2.tm
/- One point of an argument. -/
structure PtC (w : World) (g o : Nat) (q : Pt) (pk : Option Addr) (ck : Nat) (pv : Option Addr) (cv : Nat) : Prop where
  c0 : w.cell? ⟨g, o, none⟩ = some (.string q.sc)
  c1 : w.cell? ⟨g, o + 1, none⟩ = some (.slice pk (List.length q.ks) ck)
  c2 : w.cell? ⟨g, o + 2, none⟩ = some (.int .i64 q.tm)
  c3 : w.cell? ⟨g, o + 3, none⟩ = some (.slice pv (List.length q.vs) cv)
  ks : RowAt w (.slice pk (List.length q.ks) ck) q.ks
  vs : RowAt w (.slice pv (List.length q.vs) cv) q.vs
def PtsA (w : World) (v : Value) (l : List Pt) : Prop := ∃ p cap, v = .slice p l.length cap ∧ l.length ≤ cap ∧ l.length ≤ maxLen ∧ (∀ q ∈ l, (∀ v ∈ q.ks, SN.Rng v) ∧ Ok64 q.tm) ∧ ∀ j q, l[j]? = some q → ∃ g o pk ck pv cv, p = some ⟨g, o, none⟩ ∧ PtC w g (o + j * 4) q pk ck pv cv
section
variable {H : Type} {enc : TypeId × Value → H} {W : World} {base : Nat} {spare : Nat → Bool} {held : Bool}
theorem bytes34 : bsz 4 ≤ Tryz.prog.bytesOf 34 := by
  rw [show Tryz.prog.bytesOf 34 = 72 from by kernel_rfl]
  decide
set_option maxRecDepth 100000 in
theorem open_ptc {m : Nat} {cs : List Value} {y : DataW H × List MemPlace} (h : DataW.trod enc Tryz.prog W base spare held m 34 cs = some y) (hf : Fit 34 y.1) : ∃ x : Ph × Pt, cs = x.1.cells ∧ PhIs W x := by
  obtain ⟨y0, y1, y2, y3, n, hx, hl, h0, h1, h2, h3⟩ := trod_struct4 Tryz.underlying34 h
  rw [cells67] at hl
  replace h0 : DataW.trod enc Tryz.prog W base spare held n 9 ((cs.drop 0).take (Tryz.prog.cellsOf 9)) = some y0 := h0
  replace h1 : DataW.trod enc Tryz.prog W base spare held n 32 ((cs.drop 1).take (Tryz.prog.cellsOf 32)) = some y1 := h1
  replace h2 : DataW.trod enc Tryz.prog W base spare held n 3 ((cs.drop 2).take (Tryz.prog.cellsOf 3)) = some y2 := h2
  replace h3 : DataW.trod enc Tryz.prog W base spare held n 32 ((cs.drop 3).take (Tryz.prog.cellsOf 32)) = some y3 := h3
  rw [cells9] at h0
  rw [cells35] at h1 h3
  rw [cells3] at h2
  cases hx
  match cs, hl with
  | [c0, c1, c2, c3], _ =>
    have f1 : Fit 32 y1.1 := fun m hm => hf m (by simp only [DataW.weights, Tryz.underlying34]; exact DataW.weights_mem_each (j := 1) (t := 32) rfl rfl m hm)
    have f3 : Fit 32 y3.1 := fun m hm => hf m (by simp only [DataW.weights, Tryz.underlying34]; exact DataW.weights_mem_each (j := 3) (t := 32) rfl rfl m hm)
    obtain ⟨s, e0, _, w0⟩ := DataW.trod_string Tryz.underlying9 h0
    obtain ⟨ks, hk, hr⟩ := SN.open_rowR h1 f1
    obtain ⟨t, e2, _, w2⟩ := DataW.trod_int Tryz.underlying3 h2
    obtain ⟨vs, hv⟩ := open_row h3 f3
    simp at e0 e2
    subst e0 e2
    exact ⟨(⟨s, c1, t, c3⟩, ⟨s, ks, t, vs, w0⟩), rfl, rfl, rfl, hk, hv, hr, ok64_of w2⟩
set_option maxRecDepth 100000 in
theorem open_pts {r : Reach} {b0 : Nat} {v : Value} {d0 : DataW H} {p : List MemPlace} (hv : Value.okWide Tryz.prog W r b0 23 v) (h : DataW.Trod enc Tryz.prog W base spare held 23 v d0 p) (hf : Fit 23 d0) : ∃ l, PtsA W v l := by
  obtain ⟨a0, len, cap0, rfl⟩ := okWide_slice Tryz.underlying23 hv
  obtain ⟨fuel, hfu⟩ := h
  obtain ⟨xs, ⟨p, cap, hv, hc, hm, hx⟩, hg⟩ := open_sl (α := Ph × Pt) (en := fun x => x.1.cells) (k := 4) (Good := PhIs W) Tryz.underlying23 cells67 (by decide) (fun _ => rfl) bytes34 (fun n cs y h hf => open_ptc h hf) hfu hf
  refine ⟨xs.map (·.2), p, cap, by rw [List.length_map]; exact hv, by rw [List.length_map]; exact hc.1, by rw [List.length_map]; exact hm, fun q hq => ?_, fun j q hj => ?_⟩
  · obtain ⟨x, hx', rfl⟩ := List.mem_map.1 hq
    exact ⟨(hg x hx').2.2.2.2.1, (hg x hx').2.2.2.2.2⟩
  · rw [List.getElem?_map] at hj
    cases hxj : xs[j]? with
    | none => rw [hxj] at hj; cases hj
    | some x =>
      rw [hxj] at hj
      cases hj
      have hlt := (List.getElem?_eq_some_iff.1 hxj).1
      obtain ⟨b, o, hp, hQ, hcell⟩ := hx (by intro e; subst e; simp at hlt)
      obtain ⟨h1, h2, h3, h4, _, _⟩ := hg x (List.mem_of_getElem? hxj)
      have hcs := hcell j x hxj
      have c0 := hcs 0 _ rfl
      have c1 := hcs 1 _ rfl
      have c2 := hcs 2 _ rfl
      have c3 := hcs 3 _ rfl
      have h3' := h3
      have h4' := h4
      obtain ⟨pk, ck, hkv, -⟩ := h3
      obtain ⟨pv, cv, hvv, -⟩ := h4
      rw [h1] at c0
      rw [h2] at c2
      rw [hkv] at c1 h3'
      rw [hvv] at c3 h4'
      exact ⟨b, o, pk, ck, pv, cv, hp, ⟨c0, c1, c2, c3, h3', h4'⟩⟩
end
end Go.Proofs.YtlbjbkhcnafhcaaGreat
