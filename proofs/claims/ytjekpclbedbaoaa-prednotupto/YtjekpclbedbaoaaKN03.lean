/-
  A query, and a table, opened where what is read is of bulk at most 1048576.
  A condition holds for a row, or its opposite does, not both; and both leave all rows together, in canonical order: the Go function catchmentlaw15.PredNot returns true for every input, and changes none. Condition: the arguments are together of bulk at most 1048576.
-/
import Derived.Test.YtjekpclbedbaoaaRows
import Derived.Test.YtjekpclbedbaoaaKS22
import Derived.Test.YtjekpclbedbaoaaKS34
import Derived.Test.YtjekpclbedbaoaaKN01
import Derived.Test.YtjekpclbedbaoaaKN02
import Derived.JoinedCond
namespace Go.Proofs.Ytjekpclbedbaoaa.PD
open Go.ChangeShapes Go.WideShapes Go.ChangeAt Go.WideMaps Go.WideElems Go.RowKit Go.Joins

theorem st_data (s : ByteArray) : St s.data.toList = s := by obtain ⟨d⟩ := s; simp [St]
theorem bulk_one {H : Type} (d : DataW H) : 1 ≤ Rows.uptoBulk d := by
  cases d with
  | lit l => cases l <;> simp [Rows.uptoBulk]
  | nil => simp [Rows.uptoBulk]
  | ptr d => simp [Rows.uptoBulk]
  | slice elems spare => simp [Rows.uptoBulk]
  | agg parts => simp [Rows.uptoBulk]
  | iface t d => simp [Rows.uptoBulk]
  | map entries => simp [Rows.uptoBulk]
  | held h => simp [Rows.uptoBulk]
theorem bulk_part {H : Type} {d : DataW H} {l : List (DataW H)} (h : d ∈ l) : Rows.uptoBulk d ≤ Rows.uptoBulkAll l := by
  induction l with
  | nil => cases h
  | cons x r ih =>
    simp only [Rows.uptoBulkAll]
    rcases List.mem_cons.1 h with rfl | h
    · omega
    · have := ih h; omega
section
variable {H : Type} {enc : TypeId × Value → H} {W : World} {base : Nat} {spare : Nat → Bool} {held : Bool}
def Sm (d : DataW H) : Prop := Rows.uptoBulk d ≤ 1048576
theorem sm_agg {l : List (DataW H)} (h : Sm (.agg l)) {d : DataW H} (hd : d ∈ l) : Sm d := by
  have := bulk_part hd
  unfold Sm at *
  simp only [Rows.uptoBulk] at h
  omega
theorem sm_sl {es sp : List (DataW H)} (h : Sm (.slice es sp)) {d : DataW H} (hd : d ∈ es) : Sm d := by
  have := bulk_part hd
  unfold Sm at *
  simp only [Rows.uptoBulk] at h
  omega
theorem sm_str {s : ByteArray} (h : Sm (.lit (.string s.data.toList) : DataW H)) : s.size ≤ 1048576 := by
  unfold Sm at h
  simp only [Rows.uptoBulk] at h
  have h3 : s.data.toList.length = s.size := by rw [Array.length_toList]; rfl
  omega
/- A slice, elements that open one by one. -/
theorem open_slX {α : Type} [Inhabited α] {en : α → List Value} {k : Nat} {Good : α → Prop} {t e : TypeId} (ht : Try.prog.underlying t = some (.slice e)) (hc : Try.prog.cellsOf e = k) (hk : 0 < k) (hen : ∀ x, (en x).length = k)
    (each : ∀ n cs (y : DataW H × List MemPlace), DataW.trod enc Try.prog W base spare held n e cs = some y → TN.Fit e y.1 → Sm y.1 → ∃ x, cs = en x ∧ Good x) {fuel : Nat} {v : Value} {y : DataW H × List MemPlace}
    (h : DataW.trod enc Try.prog W base spare held fuel t [v] = some y) (hf : TN.Fit t y.1) (hs : Sm y.1) : ∃ xs, SlAt (fun b => b < W.heap.size) en k W v xs ∧ ∀ x ∈ xs, Good x := by
  rcases Deep.open_slice ht h with ⟨hcs, _⟩ | ⟨a, len, cap, m, n, D, Pl, hcs, hba, hl, hm, hmm, hx, hall⟩
  · cases hcs
    exact ⟨[], ⟨none, 0, rfl, ⟨Nat.le_refl _, by unfold maxLen; omega⟩, fun hne => absurd rfl hne⟩, fun x hx => by cases hx⟩
  · cases hcs
    subst hx
    have hlm : len ≤ m := by rw [hmm]; split <;> omega
    obtain ⟨hfe, hbe⟩ := TN.fit_elem ht hf
    obtain ⟨X, hX⟩ := Deep.choose_lt (α := α) (n := len) (p := fun i x => W.cells? base (a.add (i * k)) k = some (en x) ∧ Good x) (fun i hi => by
      obtain ⟨cs', h1, h2⟩ := hall i (by omega)
      rw [hc] at h1
      obtain ⟨x, rfl, hg⟩ := each n cs' _ h2 (hfe _ (List.mem_map.2 ⟨i, List.mem_range.2 hi, rfl⟩)) (sm_sl hs (List.mem_map.2 ⟨i, List.mem_range.2 hi, rfl⟩))
      exact ⟨x, h1, hg⟩)
    have hlen : ((List.range len).map X).length = len := by simp
    refine ⟨(List.range len).map X, ⟨some a, cap, by rw [hlen], ⟨by rw [hlen]; exact hl, by omega⟩, fun hne => ?_⟩, ?_⟩
    · have h0 : 0 < len := Nat.pos_of_ne_zero (fun e => hne (by rw [e]; rfl))
      obtain ⟨b, off, spot⟩ := a
      have hsp : spot = none := by
        have h1 := (World.cells?_some (hX 0 h0).1).2.2 0 hk
        rw [Nat.zero_mul] at h1
        have h2 : (en (X 0))[0]? = some ((en (X 0))[0]'(by rw [hen]; exact hk)) := List.getElem?_eq_getElem _
        rw [h2] at h1
        simpa [Addr.add] using World.cell?_spot h1
      subst hsp
      have hcell : ∀ (j : Nat) x, ((List.range len).map X)[j]? = some x → CellsAt W b (off + j * k) (en x) := fun j x hj i u hu => by
        have hj' : j < len := by have := (List.getElem?_eq_some_iff.1 hj).1; rwa [hlen] at this
        have hxj : X j = x := by simpa [List.getElem?_map, List.getElem?_range hj'] using hj
        subst hxj
        have hi : i < k := by have := (List.getElem?_eq_some_iff.1 hu).1; rwa [hen] at this
        have h1 := (World.cells?_some (hX j hj').1).2.2 i hi
        rw [hu, Addr.add_lit, Addr.add_lit] at h1
        exact h1
      refine ⟨b, off, rfl, ?_, hcell⟩
      have h2 : (en (X 0))[0]? = some ((en (X 0))[0]'(by rw [hen]; exact hk)) := List.getElem?_eq_getElem _
      exact block_lt_of_cell (hcell 0 (X 0) (by simp [h0]) 0 _ h2)
    · intro x hx
      obtain ⟨i, hi, rfl⟩ := List.mem_map.1 hx
      exact (hX i (List.mem_range.1 hi)).2
theorem cellsInts : Try.prog.cellsOf 37 = 1 := by kernel_rfl
theorem cellsStrs : Try.prog.cellsOf 41 = 1 := by kernel_rfl
theorem cellsAggs : Try.prog.cellsOf 42 = 1 := by kernel_rfl
theorem cellsAgg : Try.prog.cellsOf 184 = 2 := by kernel_rfl
theorem cellsNode : Try.prog.cellsOf 44 = 19 := by kernel_rfl
theorem cellsNodes : Try.prog.cellsOf 32 = 1 := by kernel_rfl
theorem cellsQuery : Try.prog.cellsOf 34 = 1 := by kernel_rfl
theorem open_intsX {fuel : Nat} {v : Value} {y : DataW H × List MemPlace} (h : DataW.trod enc Try.prog W base spare held fuel 37 [v] = some y) (hf : TN.Fit 37 y.1) (hs : Sm y.1) : ∃ l, SlAt (fun b => b < W.heap.size) int1 1 W v l := by
  obtain ⟨xs, hx, _⟩ := open_slX (α := Int) (en := int1) (k := 1) (Good := fun _ => True) Try.underlying37 TN.cells3 (by decide) (fun _ => rfl) (fun n cs y h hf _ => by
    obtain ⟨k, e0, _⟩ := DataW.trod_int Try.underlying3 h
    exact ⟨k, e0, trivial⟩) h hf hs
  exact ⟨xs, hx⟩
theorem open_strsX {fuel : Nat} {v : Value} {y : DataW H × List MemPlace} (h : DataW.trod enc Try.prog W base spare held fuel 41 [v] = some y) (hf : TN.Fit 41 y.1) (hs : Sm y.1) : ∃ l, SlAt (fun b => b < W.heap.size) str1 1 W v l := by
  obtain ⟨xs, hx, _⟩ := open_slX (α := List UInt8) (en := str1) (k := 1) (Good := fun _ => True) Try.underlying41 TN.cells9 (by decide) (fun _ => rfl) (fun n cs y h hf _ => by
    obtain ⟨s, e0, _⟩ := DataW.trod_string Try.underlying9 h
    exact ⟨s.data.toList, by rw [e0]; unfold str1; rw [st_data], trivial⟩) h hf hs
  exact ⟨xs, hx⟩
theorem open_aggsX {fuel : Nat} {v : Value} {y : DataW H × List MemPlace} (h : DataW.trod enc Try.prog W base spare held fuel 42 [v] = some y) (hf : TN.Fit 42 y.1) (hs : Sm y.1) : ∃ l, SlAt (fun b => b < W.heap.size) ag2 2 W v l := by
  obtain ⟨xs, hx, _⟩ := open_slX (α := Int × List UInt8) (en := ag2) (k := 2) (Good := fun _ => True) Try.underlying42 cellsAgg (by decide) (fun _ => rfl) (fun n cs y h hf _ => by
    obtain ⟨y0, y1, n, hx, hl, h0, h1⟩ := trod_struct2 Try.underlying184 h
    rw [cellsAgg] at hl
    replace h0 : DataW.trod enc Try.prog W base spare held n 3 ((cs.drop 0).take (Try.prog.cellsOf 3)) = some y0 := h0
    replace h1 : DataW.trod enc Try.prog W base spare held n 9 ((cs.drop 1).take (Try.prog.cellsOf 9)) = some y1 := h1
    rw [TN.cells3] at h0
    rw [TN.cells9] at h1
    match cs, hl with
    | [c0, c1], _ =>
      obtain ⟨k, e0, _⟩ := DataW.trod_int Try.underlying3 h0
      obtain ⟨s, e1, _⟩ := DataW.trod_string Try.underlying9 h1
      simp at e0 e1
      subst e0 e1
      exact ⟨(k, s.data.toList), by unfold ag2; rw [st_data], trivial⟩) h hf hs
  exact ⟨xs, hx⟩
set_option maxRecDepth 100000 in
theorem open_valX {m : Nat} {cs : List Value} {y : DataW H × List MemPlace} (h : DataW.trod enc Try.prog W base spare held m 40 cs = some y) (hs : Sm y.1) : ∃ x : TN.Vl, cs = x.cells ∧ x.s.size ≤ 1048576 := by
  obtain ⟨y0, y1, y2, y3, n, hx, hl, h0, h1, h2, h3⟩ := trod_struct4 Try.underlying40 h
  rw [TN.cells48] at hl
  replace h0 : DataW.trod enc Try.prog W base spare held n 3 ((cs.drop 0).take (Try.prog.cellsOf 3)) = some y0 := h0
  replace h1 : DataW.trod enc Try.prog W base spare held n 3 ((cs.drop 1).take (Try.prog.cellsOf 3)) = some y1 := h1
  replace h2 : DataW.trod enc Try.prog W base spare held n 9 ((cs.drop 2).take (Try.prog.cellsOf 9)) = some y2 := h2
  replace h3 : DataW.trod enc Try.prog W base spare held n 38 ((cs.drop 3).take (Try.prog.cellsOf 38)) = some y3 := h3
  rw [TN.cells3] at h0 h1
  rw [TN.cells9] at h2
  rw [TN.cells46] at h3
  subst hx
  match cs, hl with
  | [c0, c1, c2, c3, c4, c5, c6, c7, c8, c9, c10], _ =>
    obtain ⟨k, e0, _⟩ := DataW.trod_int Try.underlying3 h0
    obtain ⟨n, e1, w1⟩ := DataW.trod_int Try.underlying3 h1
    obtain ⟨s, e2, e2', w2⟩ := DataW.trod_string Try.underlying9 h2
    obtain ⟨a0, a1, a2, a3, a4, a5, a6, a7, e3⟩ := TN.open_cells8 h3
    simp at e0 e1 e2 e3
    obtain ⟨e3, e4, e5, e6, e7, e8, e9, e10⟩ := e3
    have hz : s.size ≤ 1048576 := sm_str (H := H) (by have := sm_agg hs (d := y2.1) (by simp); rw [e2'] at this; exact this)
    subst e0 e1 e2 e3 e4 e5 e6 e7 e8 e9 e10
    exact ⟨⟨k, n, s, a0, a1, a2, a3, a4, a5, a6, a7, w2⟩, rfl, hz⟩
instance : Inhabited Nx := ⟨⟨n0, 0, 0, 0, 0, 0, 0, 0, 0, .slice none 0 0, .slice none 0 0, .slice none 0 0⟩⟩
def GoodX (W : World) (q : Nx) : Prop := NxAt (fun b => b < W.heap.size) W q ∧ (St q.np.vs).size ≤ 1000000000000
set_option maxRecDepth 100000 in
set_option maxHeartbeats 1000000 in
theorem open_nodeX {m : Nat} {cs : List Value} {y : DataW H × List MemPlace} (h : DataW.trod enc Try.prog W base spare held m 44 cs = some y) (hf : TN.Fit 44 y.1) (hs : Sm y.1) : ∃ q : Nx, cs = q.cells ∧ GoodX W q := by
  obtain ⟨xs, n, _, hxe, hl, hlen, hfs⟩ := DataW.trod_struct Try.underlying44 h
  rw [cellsNode] at hl
  match xs, hlen with
  | [y0, y1, y2, y3, y4, y5, y6, y7, y8], _ =>
    have h0 : DataW.trod enc Try.prog W base spare held n 3 ((cs.drop 0).take (Try.prog.cellsOf 3)) = some y0 := by simpa using hfs 0 _ rfl
    have h1 : DataW.trod enc Try.prog W base spare held n 9 ((cs.drop 1).take (Try.prog.cellsOf 9)) = some y1 := by simpa using hfs 1 _ rfl
    have h2 : DataW.trod enc Try.prog W base spare held n 3 ((cs.drop 2).take (Try.prog.cellsOf 3)) = some y2 := by simpa using hfs 2 _ rfl
    have h3 : DataW.trod enc Try.prog W base spare held n 3 ((cs.drop 3).take (Try.prog.cellsOf 3)) = some y3 := by simpa using hfs 3 _ rfl
    have h4 : DataW.trod enc Try.prog W base spare held n 3 ((cs.drop 4).take (Try.prog.cellsOf 3)) = some y4 := by simpa using hfs 4 _ rfl
    have h5 : DataW.trod enc Try.prog W base spare held n 40 ((cs.drop 5).take (Try.prog.cellsOf 40)) = some y5 := by simpa using hfs 5 _ rfl
    have h6 : DataW.trod enc Try.prog W base spare held n 37 ((cs.drop 16).take (Try.prog.cellsOf 37)) = some y6 := by simpa using hfs 6 _ rfl
    have h7 : DataW.trod enc Try.prog W base spare held n 41 ((cs.drop 17).take (Try.prog.cellsOf 41)) = some y7 := by simpa using hfs 7 _ rfl
    have h8 : DataW.trod enc Try.prog W base spare held n 42 ((cs.drop 18).take (Try.prog.cellsOf 42)) = some y8 := by simpa using hfs 8 _ rfl
    rw [TN.cells3] at h0 h2 h3 h4
    rw [TN.cells9] at h1
    rw [TN.cells48] at h5
    rw [cellsInts] at h6
    rw [cellsStrs] at h7
    rw [cellsAggs] at h8
    subst hxe
    have fit : ∀ (j : Nat) (t : TypeId) (z : DataW H × List MemPlace), [y0, y1, y2, y3, y4, y5, y6, y7, y8][j]? = some z → [3, 9, 3, 3, 3, 40, 37, 41, 42][j]? = some t → TN.Fit t z.1 := fun j t z hz ht m hm => hf m (by
      simp only [DataW.weights, Try.underlying44]
      refine DataW.weights_mem_each (j := j) (t := t) ?_ ?_ m hm
      · simpa using ht
      · rw [List.getElem?_map, hz]; rfl)
    have sms : ∀ z ∈ [y0, y1, y2, y3, y4, y5, y6, y7, y8], Sm z.1 := fun z hz => sm_agg hs (List.mem_map.2 ⟨z, hz, rfl⟩)
    match cs, hl with
    | [c0, c1, c2, c3, c4, c5, c6, c7, c8, c9, c10, c11, c12, c13, c14, c15, c16, c17, c18], _ =>
      obtain ⟨k0, e0, _⟩ := DataW.trod_int Try.underlying3 h0
      obtain ⟨s, e1, _⟩ := DataW.trod_string Try.underlying9 h1
      obtain ⟨k2, e2, _⟩ := DataW.trod_int Try.underlying3 h2
      obtain ⟨k3, e3, _⟩ := DataW.trod_int Try.underlying3 h3
      obtain ⟨k4, e4, _⟩ := DataW.trod_int Try.underlying3 h4
      obtain ⟨v, e5, hv⟩ := open_valX h5 (sms y5 (by simp))
      obtain ⟨l, hl6⟩ := open_intsX (v := c16) h6 (fit 6 _ _ rfl rfl) (sms y6 (by simp))
      obtain ⟨ns, hn7⟩ := open_strsX (v := c17) h7 (fit 7 _ _ rfl rfl) (sms y7 (by simp))
      obtain ⟨gs, hg8⟩ := open_aggsX (v := c18) h8 (fit 8 _ _ rfl rfl) (sms y8 (by simp))
      simp [TN.Vl.cells] at e0 e1 e2 e3 e4 e5
      obtain ⟨g0, g1, g2, g3, g4, g5, g6, g7, g8, g9, g10⟩ := e5
      subst e0 e1 e2 e3 e4 g0 g1 g2 g3 g4 g5 g6 g7 g8 g9 g10
      refine ⟨⟨⟨k0, s.data.toList, k2, k3, k4, v.k, v.n, v.s.data.toList, l, ns, gs⟩, v.h0, v.h1, v.h2, v.h3, v.h4, v.h5, v.h6, v.h7, c16, c17, c18⟩, ?_, ⟨hl6, hn7, hg8⟩, ?_⟩
      · simp only [Nx.cells, st_data]
      · show (St v.s.data.toList).size ≤ _; rw [st_data]; omega
set_option maxRecDepth 100000 in
theorem open_queryX {r : Reach} {b0 : Nat} {v : Value} {d0 : DataW H} {p : List MemPlace} (hv : Value.okWide Try.prog W r b0 34 v) (h : DataW.Trod enc Try.prog W base spare held 34 v d0 p) (hf : TN.Fit 34 d0) (hs : Sm d0) : ∃ qv qs, v = .agg #[qv] ∧ Qx (fun k => k < W.heap.size) W qv qs ∧ ∀ q ∈ qs, (St q.np.vs).size ≤ 1000000000000 := by
  simp only [Value.okWide, Try.underlying34] at hv
  obtain ⟨cs, rfl, hsz, _⟩ := hv
  obtain ⟨fuel, hfu⟩ := h
  obtain ⟨y0, n, hx, hl, h0⟩ := trod_struct1 Try.underlying34 hfu
  replace h0 : DataW.trod enc Try.prog W base spare held n 32 (((Value.agg cs).cells.toList.drop 0).take (Try.prog.cellsOf 32)) = some y0 := h0
  rw [cellsNodes] at h0
  obtain ⟨l⟩ := cs
  have hl1 : l.length = 1 := by
    rw [cellsQuery] at hl
    simpa [Value.cells] using hl
  match l, hl1 with
  | [c0], _ =>
    have e : d0 = .agg [y0.1] := (Prod.mk.inj hx).1
    subst e
    have f0 : TN.Fit 32 y0.1 := fun m hm => hf m (by simp only [DataW.weights, Try.underlying34]; exact DataW.weights_mem_each (j := 0) (t := 32) rfl rfl m hm)
    obtain ⟨qs, hx, hg⟩ := open_slX (α := Nx) (en := Nx.cells) (k := 19) (Good := GoodX W) Try.underlying32 cellsNode (by decide) (fun _ => rfl) (fun n cs y h hf hs => open_nodeX h hf hs) (v := c0) (by simpa [Value.cells] using h0) f0 (sm_agg hs (by simp))
    exact ⟨c0, qs, rfl, ⟨hx, fun q hq => (hg q hq).1⟩, fun q hq => (hg q hq).2⟩
theorem open_slT {α : Type} [Inhabited α] {en : α → List Value} {k : Nat} {Good : α → Prop} {t e : TypeId} (ht : Try.prog.underlying t = some (.slice e)) (hc : Try.prog.cellsOf e = k) (hk : 0 < k) (hen : ∀ x, (en x).length = k) (hb : Try.prog.bytesOf e ≥ TN.bsz k)
    (each : ∀ n cs (y : DataW H × List MemPlace), DataW.trod enc Try.prog W base spare held n e cs = some y → TN.Fit e y.1 → Sm y.1 → ∃ x, cs = en x ∧ Good x) {fuel : Nat} {v : Value} {y : DataW H × List MemPlace}
    (h : DataW.trod enc Try.prog W base spare held fuel t [v] = some y) (hf : TN.Fit t y.1) (hs : Sm y.1) : ∃ xs, TN.SlAt TN.any en k W v xs ∧ ∀ x ∈ xs, Good x := by
  rcases Deep.open_slice ht h with ⟨hcs, _⟩ | ⟨a, len, cap, m, n, D, Pl, hcs, hba, hl, hm, hmm, hx, hall⟩
  · cases hcs
    exact ⟨[], TN.SlAt.nil _ _ _ _, fun x hx => by cases hx⟩
  · cases hcs
    subst hx
    have hlm : len ≤ m := by rw [hmm]; split <;> omega
    obtain ⟨hfe, hbe⟩ := TN.fit_elem ht hf
    obtain ⟨X, hX⟩ := Deep.choose_lt (α := α) (n := len) (p := fun i x => W.cells? base (a.add (i * k)) k = some (en x) ∧ Good x) (fun i hi => by
      obtain ⟨cs', h1, h2⟩ := hall i (by omega)
      rw [hc] at h1
      obtain ⟨x, rfl, hg⟩ := each n cs' _ h2 (hfe _ (List.mem_map.2 ⟨i, List.mem_range.2 hi, rfl⟩)) (sm_sl hs (List.mem_map.2 ⟨i, List.mem_range.2 hi, rfl⟩))
      exact ⟨x, h1, hg⟩)
    have hlen : ((List.range len).map X).length = len := by simp
    refine ⟨(List.range len).map X, ⟨some a, cap, by rw [hlen], ⟨by rw [hlen]; exact hl, fun e => by cases e⟩, by rw [hlen]; omega, fun hne => ?_⟩, ?_⟩
    · have h0 : 0 < len := Nat.pos_of_ne_zero (fun e => hne (by rw [e]; rfl))
      obtain ⟨b, off, spot⟩ := a
      have hsp : spot = none := by
        have h1 := (World.cells?_some (hX 0 h0).1).2.2 0 hk
        rw [Nat.zero_mul] at h1
        have h2 : (en (X 0))[0]? = some ((en (X 0))[0]'(by rw [hen]; exact hk)) := List.getElem?_eq_getElem _
        rw [h2] at h1
        simpa [Addr.add] using World.cell?_spot h1
      subst hsp
      refine ⟨b, off, rfl, ⟨trivial, ?_⟩, fun j x hj i u hu => ?_⟩
      · rw [hlen]
        simp only [List.length_map, List.length_range] at hbe
        exact Nat.le_trans (Nat.mul_le_mul_left _ hb) hbe
      · have hj' : j < len := by have := (List.getElem?_eq_some_iff.1 hj).1; rwa [hlen] at this
        have hxj : X j = x := by simpa [List.getElem?_map, List.getElem?_range hj'] using hj
        subst hxj
        have hi : i < k := by have := (List.getElem?_eq_some_iff.1 hu).1; rwa [hen] at this
        have h1 := (World.cells?_some (hX j hj').1).2.2 i hi
        rw [hu, Addr.add_lit, Addr.add_lit] at h1
        exact h1
    · intro x hx
      obtain ⟨i, hi, rfl⟩ := List.mem_map.1 hx
      exact (hX i (List.mem_range.1 hi)).2
theorem open_rowT {fuel : Nat} {v : Value} {y : DataW H × List MemPlace} (h : DataW.trod enc Try.prog W base spare held fuel 48 [v] = some y) (hf : TN.Fit 48 y.1) (hs : Sm y.1) : ∃ r : TN.Rw, TN.RowAt W v r ∧ ∀ x ∈ r, x.s.size ≤ 1048576 := by
  obtain ⟨r, hr, hg⟩ := open_slT (α := TN.Vl) (en := TN.Vl.cells) (k := 11) (Good := fun x => x.s.size ≤ 1048576) Try.underlying48 TN.cells48 (by decide) TN.vl_len (by rw [TN.bytes48]; exact Nat.le_refl _) (fun n cs y h _ hs => open_valX h hs) h hf hs
  exact ⟨r, hr, hg⟩
theorem open_rowsT {fuel : Nat} {v : Value} {y : DataW H × List MemPlace} (h : DataW.trod enc Try.prog W base spare held fuel 23 [v] = some y) (hf : TN.Fit 23 y.1) (hs : Sm y.1) : ∃ rs : List TN.Rw, TN.RowsAt W v rs ∧ ∀ r ∈ rs, ∀ x ∈ r, x.s.size ≤ 1048576 := by
  obtain ⟨xs, ⟨p, cap, hv, hc, hm, hx⟩, hg⟩ := open_slT (α := Value × TN.Rw) (en := TN.enP) (k := 1) (Good := fun x => TN.RowAt W x.1 x.2 ∧ ∀ y ∈ x.2, y.s.size ≤ 1048576) Try.underlying23 TN.cells35 (by decide) (fun _ => rfl) (by rw [TN.bytes35]; exact Nat.le_refl _) (fun n cs y h hf hs => by
    have hl : cs.length = 1 := by rcases DataW.trod_slice Try.underlying48 h with ⟨e, _⟩ | ⟨_, _, _, _, _, _, _, e, _⟩ <;> (subst e; rfl)
    match cs, hl with
    | [u], _ =>
      obtain ⟨r, hr⟩ := open_rowT h hf hs
      exact ⟨(u, r), rfl, hr⟩) h hf hs
  refine ⟨xs.map (·.2), ⟨xs.map (·.1), ⟨p, cap, by rw [List.length_map]; exact hv, by rw [List.length_map]; exact hc, by rw [List.length_map]; exact hm, fun hne => ?_⟩, by simp, fun j u r h1 h2 => ?_⟩, fun r hr => by obtain ⟨x, hx, rfl⟩ := List.mem_map.1 hr; exact (hg x hx).2⟩
  · obtain ⟨b, o, hp, hQ, hj⟩ := hx (by intro e; subst e; simp at hne)
    refine ⟨b, o, hp, by rw [List.length_map]; exact hQ, fun j u hju => ?_⟩
    rw [List.getElem?_map] at hju
    cases hxj : xs[j]? with
    | none => rw [hxj] at hju; cases hju
    | some x => rw [hxj] at hju; cases hju; exact hj j x hxj
  · rw [List.getElem?_map] at h1 h2
    cases hxj : xs[j]? with
    | none => rw [hxj] at h1; cases h1
    | some x =>
      rw [hxj] at h1 h2
      cases h1; cases h2
      exact (hg x (List.mem_of_getElem? hxj)).1
set_option maxRecDepth 100000 in
theorem open_tabT {r : Reach} {b0 : Nat} {v : Value} {d : DataW H} {p : List MemPlace} (hv : Value.okWide Try.prog W r b0 25 v) (h : DataW.Trod enc Try.prog W base spare held 25 v d p) (hf : TN.Fit 25 d) (hs : Sm d) : ∃ cs rs, TN.TabAt W v cs rs ∧ ∀ r ∈ rs, ∀ x ∈ r, x.s.size ≤ 1048576 := by
  obtain ⟨cs, rfl, hsz⟩ := okWide_struct Try.underlying25 hv
  obtain ⟨fuel, hfu⟩ := h
  obtain ⟨y0, y1, n, hx, hl, h0, h1⟩ := trod_struct2 Try.underlying25 hfu
  rw [TN.cells25] at hl
  obtain ⟨l⟩ := cs
  replace hl : l.length = 2 := hl
  replace h0 : DataW.trod enc Try.prog W base spare held n 22 ((l.drop 0).take (Try.prog.cellsOf 22)) = some y0 := h0
  replace h1 : DataW.trod enc Try.prog W base spare held n 23 ((l.drop 1).take (Try.prog.cellsOf 23)) = some y1 := h1
  rw [TN.cells22] at h0
  rw [TN.cells23] at h1
  cases hx
  match l, hl with
  | [c, q], _ =>
    have f0 : TN.Fit 22 y0.1 := fun m hm => hf m (by simp only [DataW.weights, Try.underlying25]; exact DataW.weights_mem_each (j := 0) (t := 22) rfl rfl m hm)
    have f1 : TN.Fit 23 y1.1 := fun m hm => hf m (by simp only [DataW.weights, Try.underlying25]; exact DataW.weights_mem_each (j := 1) (t := 23) rfl rfl m hm)
    obtain ⟨cl, hc⟩ := TN.open_cols h0 f0
    obtain ⟨rs, hr, hn⟩ := open_rowsT h1 f1 (sm_agg hs (by simp))
    exact ⟨cl, rs, ⟨c, q, rfl, hc, hr⟩, hn⟩
theorem rsz_of {rs : List TN.Rw} (h : ∀ r ∈ rs, ∀ x ∈ r, x.s.size ≤ 1048576) : ∀ r ∈ rs, Rsz r := fun r hr v hv => by have := h r hr v hv; omega
end
end Go.Proofs.Ytjekpclbedbaoaa.PD
namespace Go.Proofs.Ytjekpclbedbaoaa.PD
open Go.ChangeShapes Go.WideShapes Go.ChangeAt Go.WideMaps Go.WideElems Go.RowKit Go.Joins
open Go.ChangeMaps (open_string shut_string)

set_option maxRecDepth 100000 in
theorem predNot_lifted (os : Os) (started : os.Started) (H : Type) (enc : TypeId × Value → H) (F : Stop.Interp) :
    ReturnsInHanded {} Try.checked os 3 .any ((Rows.OpenSpec.upto Rows.predNotSpec).pre6 enc Try.prog Try.f3 Rows.predNotUptoRow.domain false) (((Rows.OpenSpec.upto Rows.predNotSpec).at F).post enc Try.prog Try.f3 false true false false) := by
  refine returns_shaped_cond (C := Try.checked) (s := Rows.OpenSpec.upto Rows.predNotSpec) (k := Rows.uptoSmall) rfl TN.own started (by kernel_rfl) Try.func3
    (OpenSpec.witness (enc := enc) (C := Try.checked) (s := Rows.OpenSpec.upto Rows.predNotSpec) (k := Rows.uptoSmall) rfl false ⟨#[], #[.string ⟨#[]⟩, .agg #[.slice none 0 0, .slice none 0 0]], []⟩ 8 (by kernel_rfl) (by kernel_rfl) (by kernel_rfl)
      (x := ([.lit (.string []), .agg [.nil, .nil]], [], [])) (by kernel_rfl) rfl (by kernel_rfl)) ?_
  intro W base args ds gs before hsh hval0 hW hk hsz
  have hval : ∀ (j : Nat) t v, Try.f3.params[j]? = some t → args[j]? = some v → Value.okWide Try.prog W .any base t v := hval0
  have hW' := hW
  obtain ⟨p, q, hA0, hV, rfl, _, _⟩ := hW
  have hA : DataW.TrodAll enc Try.prog W 0 (fun _ => true) true Try.f3.params.toList args.toList ds p := hA0
  rw [Try.params3] at hA hval
  obtain ⟨v0, vs0, d0, ds0, p0, q0, hargs, rfl, rfl, h0, r0⟩ := trodAll_cons hA
  obtain ⟨v1, vs1, d1, ds1, p1, q1, rfl, rfl, rfl, h1, r1⟩ := trodAll_cons r0
  obtain ⟨rfl, rfl, rfl⟩ := trodAll_nil r1
  obtain rfl : args = #[v0, v1] := by cases args; simp_all
  obtain ⟨rfl, rfl⟩ := trodVars_none hV
  have hMx : PD.Mx W := PD.mx_of_shape hsh
  have hbk0 : PD.Sm d0 := by
    have h := of_decide_eq_true hk
    have h2 : Rows.uptoBulk d0 ≤ Rows.uptoBulkAll ([d0, d1] ++ []) := PD.bulk_part (by simp)
    exact Nat.le_trans h2 h
  have hbk1 : PD.Sm d1 := by
    have h := of_decide_eq_true hk
    have h2 : Rows.uptoBulk d1 ≤ Rows.uptoBulkAll ([d0, d1] ++ []) := PD.bulk_part (by simp)
    exact Nat.le_trans h2 h
  obtain ⟨s0, rfl, rfl, rfl, x0⟩ := open_string Try.underlying9 (hval 0 9 v0 rfl rfl) h0
  have y0 : s0.size ≤ 1048576 := PD.sm_str (H := H) hbk0
  have k1 := h1
  have lt1 : ∀ x ∈ p1, x.block < W.heap.size := by obtain ⟨m, hm⟩ := k1; exact DataW.trod_lt m _ _ _ hm
  have f1 : TN.Fit 25 d1 := TN.fit_of hsz (j := 1) (by rw [show Try.checked.prog = Try.prog from rfl, Try.params3]; rfl) rfl
  obtain ⟨cs1, rs1, x1, z1⟩ := PD.open_tabT (hval 1 25 v1 rfl rfl) h1 f1 hbk1
  clear hA0 hval0
  refine (predNot_b x1 hMx (PD.rsz_of z1) y0).mono fun e W' ⟨he, bel⟩ => ?_
  subst he
  exact ⟨_, rfl, _, _, _, [], _, [], hW', trodAll_mk1 (shut_bool Try.underlying4 _), (trodAll_cons_mk (shut_string Try.underlying9 x0) (trodAll_cons_mk (Below.trod TN.laidOut (by kernel_rfl) (of_decide_eq_true (by kernel_rfl)) k1 bel lt1) trodAll_mk0)), rfl, bel.frame _, fun h => by cases h⟩
end Go.Proofs.Ytjekpclbedbaoaa.PD
namespace Go.Proofs.Ytjekpclbedbaoaa
open Go.ChangeShapes Go.WideShapes Go.ChangeAt Go.WideMaps Go.WideElems Go.RowKit Go.Joins

theorem predNotUpto_said : Rows.PredNotUptoSaid :=
  OpenClaim.holds_of_cond 3 Try.f3 rfl rfl rfl rfl rfl rfl rfl ⟨rfl, rfl, rfl, rfl, rfl⟩ rfl rfl rfl rfl rfl (by kernel_rfl) Try.func3 (by kernel_rfl)
    (of_decide_eq_true (by kernel_rfl)) (by unfold Func.isWrapper; first | (rw [if_pos (by decide +kernel)]; kernel_rfl) | (rw [if_neg (by decide +kernel)]; exact ⟨rfl, rfl⟩))
    (fun os started H enc _ F => PD.predNot_lifted os started H enc F)

#print axioms predNotUpto_said
end Go.Proofs.Ytjekpclbedbaoaa
