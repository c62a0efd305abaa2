/-
  Streams as an argument opened, as their type says, with how large they can be.
-/
import Derived.Test.YtnjeocjachmbkaaRows
import Derived.Test.YtnjeocjachmbkaaQWLaid
import Derived.Test.YtnjeocjachmbkaaQXLaw
namespace Go.Proofs.Ytnjeocjachmbkaa
open Go.ChangeShapes Go.WideShapes Go.ChangeAt Go.WideMaps Go.WideElems Go.RowKit Go.Joins

theorem cells42 : Try.prog.cellsOf 42 = 2 := by kernel_rfl
theorem bytes42 : bsz 2 ≤ Try.prog.bytesOf 42 := by
  rw [show Try.prog.bytesOf 42 = 40 from by kernel_rfl]
  decide
instance : Inhabited (Hd × Sm) := ⟨(default, default)⟩
section
variable {H : Type} {enc : TypeId × Value → H} {W : World} {base : Nat} {spare : Nat → Bool} {held : Bool}
theorem bulk_one (d : DataW H) : 1 ≤ Rows.uptoBulk d := by
  cases d with
  | lit l => cases l <;> simp [Rows.uptoBulk]
  | nil => simp [Rows.uptoBulk]
  | ptr d => simp [Rows.uptoBulk]
  | slice elems spare => simp [Rows.uptoBulk]
  | agg parts => simp [Rows.uptoBulk]
  | iface t d => simp [Rows.uptoBulk]
  | map entries => simp [Rows.uptoBulk]
  | held h => simp [Rows.uptoBulk]
theorem bulk_part {d : DataW H} {l : List (DataW H)} (h : d ∈ l) : Rows.uptoBulk d ≤ Rows.uptoBulkAll l := by
  induction l with
  | nil => cases h
  | cons x r ih =>
    simp only [Rows.uptoBulkAll]
    cases List.mem_cons.1 h with
    | inl e => subst e; omega
    | inr e => have := ih e; omega
theorem bulk_length (l : List (DataW H)) : l.length ≤ Rows.uptoBulkAll l := by
  induction l with
  | nil => simp [Rows.uptoBulkAll]
  | cons x r ih => have := bulk_one x; simp only [Rows.uptoBulkAll, List.length_cons]; omega
theorem open_slB {α : Type} [Inhabited α] {en : α → List Value} {k : Nat} {Good : α → Prop} {PB : DataW H → Prop} {t e : TypeId} (ht : Try.prog.underlying t = some (.slice e)) (hc : Try.prog.cellsOf e = k) (hk : 0 < k) (hen : ∀ x, (en x).length = k) (hb : Try.prog.bytesOf e ≥ bsz k)
    (each : ∀ n cs (y : DataW H × List MemPlace), DataW.trod enc Try.prog W base spare held n e cs = some y → Fit e y.1 → PB y.1 → ∃ x, cs = en x ∧ Good x) {fuel : Nat} {v : Value} {y : DataW H × List MemPlace}
    (h : DataW.trod enc Try.prog W base spare held fuel t [v] = some y) (hf : Fit t y.1) (hp : ∀ es sp, y.1 = .slice es sp → ∀ d ∈ es, PB d) : ∃ xs, SlAt any en k W v xs ∧ ∀ x ∈ xs, Good x := by
  rcases Deep.open_slice ht h with ⟨hcs, _⟩ | ⟨a, len, cap, m, n, D, Pl, hcs, hba, hl, hm, hmm, hx, hall⟩
  · cases hcs
    exact ⟨[], SlAt.nil _ _ _ _, fun x hx => by cases hx⟩
  · cases hcs
    subst hx
    have hlm : len ≤ m := by rw [hmm]; split <;> omega
    obtain ⟨hfe, hbe⟩ := fit_elem ht hf
    obtain ⟨X, hX⟩ := Deep.choose_lt (α := α) (n := len) (p := fun i x => W.cells? base (a.add (i * k)) k = some (en x) ∧ Good x) (fun i hi => by
      obtain ⟨cs', h1, h2⟩ := hall i (by omega)
      rw [hc] at h1
      obtain ⟨x, rfl, hg⟩ := each n cs' _ h2 (hfe _ (List.mem_map.2 ⟨i, List.mem_range.2 hi, rfl⟩)) (hp _ _ rfl _ (List.mem_map.2 ⟨i, List.mem_range.2 hi, rfl⟩))
      exact ⟨x, h1, hg⟩)
    have hlen : ((List.range len).map X).length = len := by simp
    refine ⟨(List.range len).map X, ⟨some a, cap, by rw [hlen], ⟨by rw [hlen]; exact hl, fun e => by cases e⟩, by rw [hlen]; omega, fun hne => ?_⟩, ?_⟩
    · have h0 : 0 < len := Nat.pos_of_ne_zero (fun e => hne (by rw [e]; rfl))
      obtain ⟨b, off, spot⟩ := a
      have hsp : spot = none := by
        have h1 := (World.cells?_some (hX 0 h0).1).2.2 0 hk
        rw [Nat.zero_mul] at h1
        have h2 : (en (X 0))[0]? = some ((en (X 0))[0]'(by rw [hen]; exact hk)) := List.getElem?_eq_getElem _
        rw [h2] at h1
        simpa [Addr.add] using World.cell?_spot h1
      subst hsp
      refine ⟨b, off, rfl, ⟨trivial, ?_⟩, fun j x hj i u hu => ?_⟩
      · rw [hlen]
        simp only [List.length_map, List.length_range] at hbe
        exact Nat.le_trans (Nat.mul_le_mul_left _ hb) hbe
      · have hj' : j < len := by have := (List.getElem?_eq_some_iff.1 hj).1; rwa [hlen] at this
        have hxj : X j = x := by simpa [List.getElem?_map, List.getElem?_range hj'] using hj
        subst hxj
        have hi : i < k := by have := (List.getElem?_eq_some_iff.1 hu).1; rwa [hen] at this
        have h1 := (World.cells?_some (hX j hj').1).2.2 i hi
        rw [hu, Addr.add_lit, Addr.add_lit] at h1
        exact h1
    · intro x hx
      obtain ⟨i, hi, rfl⟩ := List.mem_map.1 hx
      exact (hX i (List.mem_range.1 hi)).2
theorem row_bulk {m : Nat} {v : Value} {r : Rw} {y : DataW H × List MemPlace} (h : DataW.trod enc Try.prog W base spare held m 40 [v] = some y) (hc : RowAt W v r) : List.length r ≤ Rows.uptoBulk y.1 := by
  obtain ⟨p, cap, rfl, -⟩ := hc
  rcases DataW.trod_slice Try.underlying40 h with ⟨e, _⟩ | ⟨a, len, cap', elems, rest, n, _, e, rfl, _, _, _, hl, _⟩
  · injection e with e1
    injection e1 with _ e2
    rw [e2]; exact Nat.zero_le _
  · injection e with e1
    injection e1 with _ e2
    have := bulk_length (elems.map (·.1))
    rw [List.length_map] at this
    simp only [Rows.uptoBulk]
    omega
set_option maxRecDepth 100000 in
theorem open_stB {m : Nat} {cs : List Value} {y : DataW H × List MemPlace} (h : DataW.trod enc Try.prog W base spare held m 42 cs = some y) (hf : Fit 42 y.1) (hb : Rows.uptoBulk y.1 ≤ 1048576) : ∃ x : Hd × Sm, cs = x.1.cells ∧ x.1.nm = x.2.nm ∧ RowAt W x.1.kv x.2.ks ∧ Sz x.2 := by
  obtain ⟨y0, y1, n, hx, hl, h0, h1⟩ := trod_struct2 Try.underlying42 h
  rw [cells42] at hl
  replace h0 : DataW.trod enc Try.prog W base spare held n 9 ((cs.drop 0).take (Try.prog.cellsOf 9)) = some y0 := h0
  replace h1 : DataW.trod enc Try.prog W base spare held n 40 ((cs.drop 1).take (Try.prog.cellsOf 40)) = some y1 := h1
  rw [cells9] at h0
  rw [cells35] at h1
  cases hx
  match cs, hl with
  | [c0, c1], _ =>
    have f1 : Fit 40 y1.1 := fun m hm => hf m (by simp only [DataW.weights, Try.underlying42]; exact DataW.weights_mem_each (j := 1) (t := 40) rfl rfl m hm)
    obtain ⟨s, e0, e0', w0⟩ := DataW.trod_string Try.underlying9 h0
    obtain ⟨r, hr, hg⟩ := open_rowR h1 f1
    simp at e0
    subst e0
    have q1 := row_bulk h1 hr
    have e1 : y0.1 = .lit (.string s.data.toList) := by rw [e0']
    simp only [Rows.uptoBulk, Rows.uptoBulkAll, e1] at hb
    have h3 : s.data.toList.length = s.size := by rw [Array.length_toList]; rfl
    exact ⟨(⟨s, c1⟩, ⟨s, r⟩), rfl, rfl, hr, ⟨by show s.size ≤ 2000000; omega, by show List.length r ≤ 2000000; omega, hg⟩⟩
set_option maxRecDepth 100000 in
theorem open_ls {r : Reach} {b0 : Nat} {v : Value} {d0 : DataW H} {p : List MemPlace} (hv : Value.okWide Try.prog W r b0 33 v) (h : DataW.Trod enc Try.prog W base spare held 33 v d0 p) (hf : Fit 33 d0) (hb : Rows.uptoBulk d0 ≤ 1048576) : ∃ l, LsAt W v l := by
  obtain ⟨a0, len, cap0, rfl⟩ := okWide_slice Try.underlying33 hv
  obtain ⟨fuel, hfu⟩ := h
  obtain ⟨xs, ⟨p, cap, hv, hc, hm, hx⟩, hg⟩ := open_slB (α := Hd × Sm) (en := fun x => x.1.cells) (k := 2) (Good := fun x => x.1.nm = x.2.nm ∧ RowAt W x.1.kv x.2.ks ∧ Sz x.2) (PB := fun d => Rows.uptoBulk d ≤ 1048576) Try.underlying33 cells42 (by decide) (fun _ => rfl) bytes42 (fun n cs y h hf hb => open_stB h hf hb) hfu hf (fun es sp e d hd => by
    have e' : d0 = .slice es sp := e
    rw [e'] at hb
    have := bulk_part hd
    simp only [Rows.uptoBulk] at hb
    omega)
  refine ⟨xs.map (·.2), ⟨⟨p, cap, by rw [List.length_map]; exact hv, by rw [List.length_map]; exact hc.1, fun j s hj => ?_⟩, fun s hs => ?_, by rw [List.length_map]; unfold maxLen at hm; omega⟩⟩
  · rw [List.getElem?_map] at hj
    cases hxj : xs[j]? with
    | none => rw [hxj] at hj; cases hj
    | some x =>
      rw [hxj] at hj
      cases hj
      have hlt := (List.getElem?_eq_some_iff.1 hxj).1
      obtain ⟨b, o, hp, hQ, hcell⟩ := hx (by intro e; subst e; simp at hlt)
      obtain ⟨hn, hr, hz⟩ := hg x (List.mem_of_getElem? hxj)
      obtain ⟨c0, c1⟩ := hd_at (hcell j x hxj)
      obtain ⟨kp, kc, hk, hr'⟩ := hr
      rw [hn] at c0
      rw [hk] at c1
      exact ⟨b, o, kp, kc, hp, c0, c1, kp, kc, rfl, hr'⟩
  · obtain ⟨x, hx', rfl⟩ := List.mem_map.1 hs
    exact (hg x hx').2.2
end
end Go.Proofs.Ytnjeocjachmbkaa
