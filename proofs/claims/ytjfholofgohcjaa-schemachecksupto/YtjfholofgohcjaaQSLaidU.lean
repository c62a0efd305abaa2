/-
  Arguments of schema's statements opened as their types say, with how many columns there can be.
-/
import Derived.Test.YtjfholofgohcjaaRows
import Derived.Test.YtjfholofgohcjaaQSLaid
namespace Go.Proofs.Ytjfholofgohcjaa
open Go.ChangeShapes Go.WideShapes Go.ChangeAt Go.WideMaps Go.WideElems Go.RowKit Go.Joins

section
variable {H : Type} {enc : TypeId × Value → H} {W : World} {base : Nat} {spare : Nat → Bool} {held : Bool}
theorem bulk_one (d : DataW H) : 1 ≤ Rows.uptoBulk d := by
  cases d with
  | lit l => cases l <;> simp [Rows.uptoBulk]
  | nil => simp [Rows.uptoBulk]
  | ptr d => simp [Rows.uptoBulk]
  | slice elems spare => simp [Rows.uptoBulk]
  | agg parts => simp [Rows.uptoBulk]
  | iface t d => simp [Rows.uptoBulk]
  | map entries => simp [Rows.uptoBulk]
  | held h => simp [Rows.uptoBulk]
theorem bulk_part {d : DataW H} {l : List (DataW H)} (h : d ∈ l) : Rows.uptoBulk d ≤ Rows.uptoBulkAll l := by
  induction l with
  | nil => cases h
  | cons x r ih =>
    simp only [Rows.uptoBulkAll]
    cases List.mem_cons.1 h with
    | inl e => subst e; omega
    | inr e => have := ih e; omega
theorem bulk_length (l : List (DataW H)) : l.length ≤ Rows.uptoBulkAll l := by
  induction l with
  | nil => simp [Rows.uptoBulkAll]
  | cons x r ih => have := bulk_one x; simp only [Rows.uptoBulkAll, List.length_cons]; omega
theorem cols_bulk {m : Nat} {v : Value} {cs : List Cl} {y : DataW H × List MemPlace} (h : DataW.trod enc Try.prog W base spare held m 22 [v] = some y) (hc : ColsAt W v cs) : cs.length ≤ Rows.uptoBulk y.1 := by
  obtain ⟨p, cap, rfl, -⟩ := hc
  rcases DataW.trod_slice Try.underlying22 h with ⟨e, _⟩ | ⟨a, len, cap', elems, rest, n, _, e, rfl, _, _, _, hl, _⟩
  · injection e with e1
    injection e1 with _ e2
    rw [e2]; exact Nat.zero_le _
  · injection e with e1
    injection e1 with _ e2
    have := bulk_length (elems.map (·.1))
    rw [List.length_map] at this
    simp only [Rows.uptoBulk]
    omega
theorem open_slB {α : Type} [Inhabited α] {en : α → List Value} {k : Nat} {Good : α → Prop} {PB : DataW H → Prop} {t e : TypeId} (ht : Try.prog.underlying t = some (.slice e)) (hc : Try.prog.cellsOf e = k) (hk : 0 < k) (hen : ∀ x, (en x).length = k) (hb : Try.prog.bytesOf e ≥ bsz k)
    (each : ∀ n cs (y : DataW H × List MemPlace), DataW.trod enc Try.prog W base spare held n e cs = some y → Fit e y.1 → PB y.1 → ∃ x, cs = en x ∧ Good x) {fuel : Nat} {v : Value} {y : DataW H × List MemPlace}
    (h : DataW.trod enc Try.prog W base spare held fuel t [v] = some y) (hf : Fit t y.1) (hp : ∀ es sp, y.1 = .slice es sp → ∀ d ∈ es, PB d) : ∃ xs, SlAt any en k W v xs ∧ ∀ x ∈ xs, Good x := by
  rcases Deep.open_slice ht h with ⟨hcs, _⟩ | ⟨a, len, cap, m, n, D, Pl, hcs, hba, hl, hm, hmm, hx, hall⟩
  · cases hcs
    exact ⟨[], SlAt.nil _ _ _ _, fun x hx => by cases hx⟩
  · cases hcs
    subst hx
    have hlm : len ≤ m := by rw [hmm]; split <;> omega
    obtain ⟨hfe, hbe⟩ := fit_elem ht hf
    obtain ⟨X, hX⟩ := Deep.choose_lt (α := α) (n := len) (p := fun i x => W.cells? base (a.add (i * k)) k = some (en x) ∧ Good x) (fun i hi => by
      obtain ⟨cs', h1, h2⟩ := hall i (by omega)
      rw [hc] at h1
      obtain ⟨x, rfl, hg⟩ := each n cs' _ h2 (hfe _ (List.mem_map.2 ⟨i, List.mem_range.2 hi, rfl⟩)) (hp _ _ rfl _ (List.mem_map.2 ⟨i, List.mem_range.2 hi, rfl⟩))
      exact ⟨x, h1, hg⟩)
    have hlen : ((List.range len).map X).length = len := by simp
    refine ⟨(List.range len).map X, ⟨some a, cap, by rw [hlen], ⟨by rw [hlen]; exact hl, fun e => by cases e⟩, by rw [hlen]; omega, fun hne => ?_⟩, ?_⟩
    · have h0 : 0 < len := Nat.pos_of_ne_zero (fun e => hne (by rw [e]; rfl))
      obtain ⟨b, off, spot⟩ := a
      have hsp : spot = none := by
        have h1 := (World.cells?_some (hX 0 h0).1).2.2 0 hk
        rw [Nat.zero_mul] at h1
        have h2 : (en (X 0))[0]? = some ((en (X 0))[0]'(by rw [hen]; exact hk)) := List.getElem?_eq_getElem _
        rw [h2] at h1
        simpa [Addr.add] using World.cell?_spot h1
      subst hsp
      refine ⟨b, off, rfl, ⟨trivial, ?_⟩, fun j x hj i u hu => ?_⟩
      · rw [hlen]
        simp only [List.length_map, List.length_range] at hbe
        exact Nat.le_trans (Nat.mul_le_mul_left _ hb) hbe
      · have hj' : j < len := by have := (List.getElem?_eq_some_iff.1 hj).1; rwa [hlen] at this
        have hxj : X j = x := by simpa [List.getElem?_map, List.getElem?_range hj'] using hj
        subst hxj
        have hi : i < k := by have := (List.getElem?_eq_some_iff.1 hu).1; rwa [hen] at this
        have h1 := (World.cells?_some (hX j hj').1).2.2 i hi
        rw [hu, Addr.add_lit, Addr.add_lit] at h1
        exact h1
    · intro x hx
      obtain ⟨i, hi, rfl⟩ := List.mem_map.1 hx
      exact (hX i (List.mem_range.1 hi)).2
set_option maxRecDepth 100000 in
theorem open_scB {m : Nat} {cs : List Value} {y : DataW H × List MemPlace} (h : DataW.trod enc Try.prog W base spare held m 56 cs = some y) (hf : Fit 56 y.1) (hb : Rows.uptoBulk y.1 ≤ 1048576) : ∃ x : Sh × Sc, cs = x.1.cells ∧ ShIs W x.1 x.2 ∧ x.2.ks.length + x.2.vs.length ≤ 3000000 := by
  obtain ⟨y0, y1, y2, n, hx, hl, h0, h1, h2⟩ := Go.Deep.trod_struct3 Try.underlying56 h
  rw [cells56] at hl
  replace h0 : DataW.trod enc Try.prog W base spare held n 9 ((cs.drop 0).take (Try.prog.cellsOf 9)) = some y0 := h0
  replace h1 : DataW.trod enc Try.prog W base spare held n 22 ((cs.drop 1).take (Try.prog.cellsOf 22)) = some y1 := h1
  replace h2 : DataW.trod enc Try.prog W base spare held n 22 ((cs.drop 2).take (Try.prog.cellsOf 22)) = some y2 := h2
  rw [cells9] at h0
  rw [cells22] at h1 h2
  cases hx
  match cs, hl with
  | [c0, c1, c2], _ =>
    have f1 : Fit 22 y1.1 := fun m hm => hf m (by simp only [DataW.weights, Try.underlying56]; exact DataW.weights_mem_each (j := 1) (t := 22) rfl rfl m hm)
    have f2 : Fit 22 y2.1 := fun m hm => hf m (by simp only [DataW.weights, Try.underlying56]; exact DataW.weights_mem_each (j := 2) (t := 22) rfl rfl m hm)
    obtain ⟨s, e0, _, w0⟩ := DataW.trod_string Try.underlying9 h0
    obtain ⟨ks, hk⟩ := open_cols h1 f1
    obtain ⟨vs, hv⟩ := open_cols h2 f2
    simp at e0
    subst e0
    have q1 := cols_bulk h1 hk
    have q2 := cols_bulk h2 hv
    simp only [Rows.uptoBulk, Rows.uptoBulkAll] at hb
    exact ⟨(⟨s, c1, c2⟩, ⟨s, ks, vs, w0⟩), rfl, ⟨rfl, hk, hv⟩, by show ks.length + vs.length ≤ 3000000; omega⟩
set_option maxRecDepth 100000 in
theorem open_schsB {r : Reach} {b0 : Nat} {v : Value} {d0 : DataW H} {p : List MemPlace} (hv : Value.okWide Try.prog W r b0 54 v) (h : DataW.Trod enc Try.prog W base spare held 54 v d0 p) (hf : Fit 54 d0) (hb : Rows.uptoBulk d0 ≤ 1048576) : ∃ l, SchsAt W v l ∧ ∀ s ∈ l, s.ks.length + s.vs.length ≤ 3000000 := by
  obtain ⟨a0, len, cap0, rfl⟩ := okWide_slice Try.underlying54 hv
  obtain ⟨fuel, hfu⟩ := h
  obtain ⟨xs, ⟨p, cap, hv, hc, hm, hx⟩, hg⟩ := open_slB (α := Sh × Sc) (en := fun x => x.1.cells) (k := 3) (Good := fun x => ShIs W x.1 x.2 ∧ x.2.ks.length + x.2.vs.length ≤ 3000000) (PB := fun d => Rows.uptoBulk d ≤ 1048576) Try.underlying54 cells56 (by decide) (fun _ => rfl) bytes56 (fun n cs y h hf hb => open_scB h hf hb) hfu hf (fun es sp e d hd => by
    have e' : d0 = .slice es sp := e
    rw [e'] at hb
    have := bulk_part hd
    simp only [Rows.uptoBulk] at hb
    omega)
  refine ⟨xs.map (·.2), ⟨xs.map (·.1), ⟨p, cap, by rw [List.length_map]; exact hv, by rw [List.length_map]; exact hc, by rw [List.length_map]; exact hm, fun hne => ?_⟩, by simp, fun j u r h1 h2 => ?_⟩, fun s hs => by obtain ⟨x, hx', rfl⟩ := List.mem_map.1 hs; exact (hg x hx').2⟩
  · obtain ⟨b, o, hp, hQ, hj⟩ := hx (by intro e; subst e; simp at hne)
    refine ⟨b, o, hp, by rw [List.length_map]; exact hQ, fun j u hju => ?_⟩
    rw [List.getElem?_map] at hju
    cases hxj : xs[j]? with
    | none => rw [hxj] at hju; cases hju
    | some x => rw [hxj] at hju; cases hju; exact hj j x hxj
  · rw [List.getElem?_map] at h1 h2
    cases hxj : xs[j]? with
    | none => rw [hxj] at h1; cases h1
    | some x =>
      rw [hxj] at h1 h2
      cases h1; cases h2
      exact (hg x (List.mem_of_getElem? hxj)).1
end
end Go.Proofs.Ytjfholofgohcjaa
