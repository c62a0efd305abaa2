/-
  What table.pick returns, for values and for columns.
-/
import Derived.Test.YtoadamimfhjoiaaInOrder
import Derived.Laws.IdiomCopy
namespace Go.Proofs.Ytoadamimfhjoiaa
open Go.RowKit Go.Sort Go.Shelf

def encN (n : Nat) : List Value := [.int .i64 (n : Int)]
theorem take_map_snoc_gen {β : Type} {ps : List Nat} {f : Nat → β} {k : Nat} (h : k < ps.length) : (ps.take (k + 1)).map f = (ps.take k).map f ++ [f ps[k]!] := by
  have e : ps[k]! = ps[k] := by rw [List.getElem!_eq_getElem?_getD, List.getElem?_eq_getElem h]; rfl
  rw [List.take_succ_eq_append_getElem h, List.map_append, e]; rfl
/- A block of m elements of k cells, whose first ones are these. -/
structure Filled {α : Type} (enc : α → List Value) (k B m : Nat) (xs : List α) (w : World) : Prop where
  lt : B < w.heap.size
  cell : ∀ i, i < m * k → ∃ y, w.cell? ⟨B, i, none⟩ = some y
  frozen : ∀ i, w.frozen? ⟨B, i, none⟩ = false
  held : ∀ (j : Nat) x, xs[j]? = some x → CellsAt w B (j * k) (enc x)
theorem Filled.start {α : Type} (enc : α → List Value) (k m e : Nat) (w : World) {C : Array Value} (hc : C.size = m * k) : Filled enc k w.heap.size m ([] : List α) (w.alloc (.cells C e)) := by
  have hb := alloc_block w (.cells C e)
  refine ⟨by simp, fun i hi => ⟨C[i]'(by omega), ?_⟩, fun i => frozen_no hb i, fun j x h => by simp at h⟩
  rw [block_cell hb]; exact Array.getElem?_eq_getElem _
theorem frozen_sets (b : Nat) : ∀ (vs : List Value) (o : Nat) (w : World) (a : Addr), (w.setCells b o vs).frozen? a = w.frozen? a
  | [], _, _, _ => rfl
  | v :: vs, o, w, a => by rw [World.setCells, frozen_sets b vs]; simp
theorem below_sets {B : Nat} {w w' : World} {R : Nat} (h : Below B w w') (hR : B ≤ R) : ∀ (vs : List Value) (o : Nat), Below B w (w'.setCells R o vs)
  | [], _ => h
  | v :: vs, o => by rw [World.setCells]; exact below_sets (below_set h hR) hR vs (o + 1)
theorem size_sets (b : Nat) : ∀ (vs : List Value) (o : Nat) (w : World), (w.setCells b o vs).heap.size = w.heap.size
  | [], _, _ => rfl
  | v :: vs, o, w => by rw [World.setCells, size_sets b vs, World.size_setCell]
theorem Filled.put {α : Type} {enc : α → List Value} {k B m : Nat} {xs : List α} {w : World} {x : α} (h : Filled enc k B m xs w) (hk : ∀ x, (enc x).length = k) (hkm : (xs.length + 1) * k ≤ m * k) : Filled enc k B m (xs ++ [x]) (w.setCells B (xs.length * k) (enc x)) := by
  have hin := World.cell?_setCells_in B (enc x) (xs.length * k) w (fun j hj => by
    rw [hk] at hj
    obtain ⟨y, hy⟩ := h.cell (xs.length * k + j) (by rw [Nat.succ_mul] at hkm; omega)
    rw [hy]; rfl)
  have hout := fun a => World.cell?_setCells_out B (enc x) (xs.length * k) w a
  refine ⟨by rw [size_sets]; exact h.lt, fun i hi => ?_, fun i => by rw [frozen_sets]; exact h.frozen i, fun j y hy i u hu => ?_⟩
  · by_cases hc : i < xs.length * k ∨ xs.length * k + (enc x).length ≤ i
    · obtain ⟨y, hy⟩ := h.cell i hi
      exact ⟨y, (hout ⟨B, i, none⟩ (fun _ _ => hc)).trans hy⟩
    · have hj : i - xs.length * k < (enc x).length := by omega
      have := hin (i - xs.length * k) hj
      rw [show xs.length * k + (i - xs.length * k) = i from by omega] at this
      exact ⟨_, this⟩
  · have hiu : i < k := by
      have := (List.getElem?_eq_some_iff.1 hu).1
      rwa [hk] at this
    by_cases hj : j < xs.length
    · rw [List.getElem?_append_left hj] at hy
      have h1 := h.held j y hy i u hu
      have h2 : j * k + i < xs.length * k := by
        have : (j + 1) * k ≤ xs.length * k := Nat.mul_le_mul_right k hj
        rw [Nat.succ_mul] at this; omega
      exact (hout ⟨B, j * k + i, none⟩ (fun _ _ => Or.inl h2)).trans h1
    · rw [List.getElem?_append_right (by omega)] at hy
      cases hd : j - xs.length with
      | succ d => rw [hd] at hy; simp at hy
      | zero =>
        rw [hd] at hy
        simp at hy
        subst hy
        have hje : j = xs.length := by omega
        subst hje
        have hlt := (List.getElem?_eq_some_iff.1 hu).1
        have := hin i hlt
        rw [this, (List.getElem?_eq_some_iff.1 hu).2]
theorem Filled.sl {α : Type} {enc : α → List Value} {k B m : Nat} {xs : List α} {w : World} (h : Filled enc k B m xs w) (hl : xs.length = m) (hm : m ≤ 4096) : SlAt (fun b => B ≤ b) enc k w (.slice (some ⟨B, 0, none⟩) m m) xs := by
  refine ⟨some ⟨B, 0, none⟩, m, by rw [hl], ⟨by omega, fun e => by cases e⟩, by unfold maxLen; omega, fun _ => ⟨B, 0, rfl, ⟨Nat.le_refl _, by unfold bsz; split <;> omega⟩, fun j x hj => ?_⟩⟩
  rw [Nat.zero_add]; exact h.held j x hj

theorem make_pickV (n : Nat) (hn : n ≤ 4096) (W : World) : (Instr.makeSlice 35 (.int .i64 (n : Int)) (.int .i64 (n : Int))).run Try.prog W = .ok (.slice (some ⟨W.heap.size, 0, none⟩) n n) (W.alloc (.cells (madeCells (V 0 0 ⟨#[]⟩ 0 0 0 0 0 0 0 0).cells (n * 11)) 48)) := by
  obtain ⟨i, hi, h0, h1, h2⟩ := info_parts info48
  have h := run_make W 35 48 i _ Try.underlying35 hi h0 .i64 .i64 (n : Int) (n : Int) (by omega) (Int.le_refl _) (by rw [h2]; omega) (by omega)
  rw [h, h1, Int.toNat_natCast]
set_option maxHeartbeats 2000000 in
theorem pickV_any {u pv : Value} {r : List Vl} {ps : List Nat} {w : World} (hu : SlAt any Vl.cells 11 w u r) (hp : SlAt any encN 1 w pv ps) (hps : ∀ p ∈ ps, p < r.length) (hl : ps.length ≤ 4096) :
    Calls Try.prog 47 #[u, pv] w fun e w' => ∃ v', e = .returned v' ∧ SlAt (fun b => w.heap.size ≤ b) Vl.cells 11 w' v' (ps.map fun p => r[p]!) ∧ Below w.heap.size w w' := by
  obtain ⟨p, cap, rfl, hcap, hmax, hx⟩ := hu
  obtain ⟨p', cap', rfl, hcap', hmax', hx'⟩ := hp
  unfold maxLen at hmax hmax'
  have HX := hid hx
  have HX' := hid hx'
  have HP := hid hps
  clear hx hx' hps
  generalize hn : r.length = n at *
  generalize hm : ps.length = m at *
  have HN := hid hn
  have HM := hid hm
  clear hn hm
  have hmk := make_pickV m hl
  go_enter Try.func47, Try.ntmps47
  go_wp2
  go_loopw [13] (fun i wr => ∃ j : Nat, j ≤ m ∧ i = .int .i64 j ∧ Hid (Filled Vl.cells 11 w.heap.size m ((ps.take j).map fun p => r[p]!) wr) ∧ Hid (Below w.heap.size w wr)) (fun i _ => m - (intOf i).toNat)
  case atStart => exact ⟨0, by omega, rfl, Filled.start _ _ _ _ _ (size_madeCells _ _), (Below.refl _ _).alloc (Nat.le_refl _) _⟩
  case round =>
    obtain ⟨j, hj, rfl, HF, HB⟩ := hrel
    by_cases hlt : j < m
    · have hjp : j < ps.length := by rw [HM.out]; exact hlt
      obtain ⟨b', o', rfl, -, hq⟩ := HX'.out (by intro e; subst e; simp at hjp)
      have hd : wr.cell? ⟨b', o' + j, none⟩ = some (.int .i64 (ps[j]! : Nat)) := by
        have := ((hq j _ (get!_some hjp)).on HB.out) 0 _ rfl
        simpa using this
      have hat : ps[j]! < n := HP.out _ (List.mem_of_getElem? (get!_some hjp))
      have HT := hid (take_map_snoc_gen (f := fun p => r[p]!) hjp)
      generalize ps[j]! = at0 at hd hat HT
      have hat' : at0 < r.length := by rw [HN.out]; exact hat
      obtain ⟨b, o, rfl, -, hz⟩ := HX.out (by intro e; subst e; simp at hat')
      obtain ⟨c0, c1, c2, c3, c4, c5, c6, c7, c8, c9, c10⟩ := val_cells ((hz at0 _ (get!_some hat')).on HB.out)
      generalize hvv : r[at0]! = x at c0 c1 c2 c3 c4 c5 c6 c7 c8 c9 c10
      have HVV := hid hvv
      clear hvv hz hq
      obtain ⟨y0, d0⟩ := HF.out.cell (j * 11 + 0) (by omega)
      obtain ⟨y1, d1⟩ := HF.out.cell (j * 11 + 1) (by omega)
      obtain ⟨y2, d2⟩ := HF.out.cell (j * 11 + 2) (by omega)
      obtain ⟨y3, d3⟩ := HF.out.cell (j * 11 + 3) (by omega)
      obtain ⟨y4, d4⟩ := HF.out.cell (j * 11 + 4) (by omega)
      obtain ⟨y5, d5⟩ := HF.out.cell (j * 11 + 5) (by omega)
      obtain ⟨y6, d6⟩ := HF.out.cell (j * 11 + 6) (by omega)
      obtain ⟨y7, d7⟩ := HF.out.cell (j * 11 + 7) (by omega)
      obtain ⟨y8, d8⟩ := HF.out.cell (j * 11 + 8) (by omega)
      obtain ⟨y9, d9⟩ := HF.out.cell (j * 11 + 9) (by omega)
      obtain ⟨y10, d10⟩ := HF.out.cell (j * 11 + 10) (by omega)
      have f0 := HF.out.frozen
      rw [Nat.add_zero] at d0
      go_wp2
      go_roundw
      case rel =>
        refine ⟨j + 1, by omega, by go_num, ?_, ?_⟩
        · have hf := HF.out.put (x := r[at0]!) (xs := (ps.take j).map fun p => r[p]!) (hk := fun x => rfl) (by simp; omega)
          have hlen : ((ps.take j).map fun p => r[p]!).length = j := by simp; omega
          rw [hlen, HVV.out] at hf
          show Filled _ _ _ _ _ _
          rw [HT.out]
          show Filled _ _ _ _ (_ ++ [r[at0]!]) _
          rw [HVV.out]
          exact hf
        · exact below_sets HB.out (Nat.le_refl _) x.cells (j * 11)
      case measure => simp [intOf]; omega
    · have hks : j = m := by omega
      subst hks
      have hrl : ps.take j = ps := by rw [List.take_of_length_le]; rw [HM.out]; exact Nat.le_refl _
      rw [hrl] at HF
      go_wp2
      go_ret
      exact ⟨_, rfl, HF.out.sl (by simp; exact HM.out) hl, HB.out⟩

theorem make_pickC (n : Nat) (hn : n ≤ 4096) (W : World) : (Instr.makeSlice 22 (.int .i64 (n : Int)) (.int .i64 (n : Int))).run Try.prog W = .ok (.slice (some ⟨W.heap.size, 0, none⟩) n n) (W.alloc (.cells (madeCells (Value.agg #[.string ⟨#[]⟩, .int .i64 0]).cells (n * 2)) 45)) := by
  obtain ⟨i, hi, h0, h1, h2⟩ := info_parts info45
  have h := run_make W 22 45 i _ Try.underlying22 hi h0 .i64 .i64 (n : Int) (n : Int) (by omega) (Int.le_refl _) (by rw [h2]; omega) (by omega)
  rw [h, h1, Int.toNat_natCast]
set_option maxHeartbeats 2000000 in
theorem pickC_any {u pv : Value} {r : List Cl} {ps : List Nat} {w : World} (hu : SlAt any Cl.cells 2 w u r) (hp : SlAt any encN 1 w pv ps) (hps : ∀ p ∈ ps, p < r.length) (hl : ps.length ≤ 4096) :
    Calls Try.prog 48 #[u, pv] w fun e w' => ∃ v', e = .returned v' ∧ SlAt (fun b => w.heap.size ≤ b) Cl.cells 2 w' v' (ps.map fun p => r[p]!) ∧ Below w.heap.size w w' := by
  obtain ⟨p, cap, rfl, hcap, hmax, hx⟩ := hu
  obtain ⟨p', cap', rfl, hcap', hmax', hx'⟩ := hp
  unfold maxLen at hmax hmax'
  have HX := hid hx
  have HX' := hid hx'
  have HP := hid hps
  clear hx hx' hps
  generalize hn : r.length = n at *
  generalize hm : ps.length = m at *
  have HN := hid hn
  have HM := hid hm
  clear hn hm
  have hmk := make_pickC m hl
  go_enter Try.func48, Try.ntmps48
  go_wp2
  go_loopw [13] (fun i wr => ∃ j : Nat, j ≤ m ∧ i = .int .i64 j ∧ Hid (Filled Cl.cells 2 w.heap.size m ((ps.take j).map fun p => r[p]!) wr) ∧ Hid (Below w.heap.size w wr)) (fun i _ => m - (intOf i).toNat)
  case atStart => exact ⟨0, by omega, rfl, Filled.start _ _ _ _ _ (size_madeCells _ _), (Below.refl _ _).alloc (Nat.le_refl _) _⟩
  case round =>
    obtain ⟨j, hj, rfl, HF, HB⟩ := hrel
    by_cases hlt : j < m
    · have hjp : j < ps.length := by rw [HM.out]; exact hlt
      obtain ⟨b', o', rfl, -, hq⟩ := HX'.out (by intro e; subst e; simp at hjp)
      have hd : wr.cell? ⟨b', o' + j, none⟩ = some (.int .i64 (ps[j]! : Nat)) := by
        have := ((hq j _ (get!_some hjp)).on HB.out) 0 _ rfl
        simpa using this
      have hat : ps[j]! < n := HP.out _ (List.mem_of_getElem? (get!_some hjp))
      have HT := hid (take_map_snoc_gen (f := fun p => r[p]!) hjp)
      generalize ps[j]! = at0 at hd hat HT
      have hat' : at0 < r.length := by rw [HN.out]; exact hat
      obtain ⟨b, o, rfl, -, hz⟩ := HX.out (by intro e; subst e; simp at hat')
      obtain ⟨c0, c1⟩ := col_cells ((hz at0 _ (get!_some hat')).on HB.out)
      generalize hvv : r[at0]! = x at c0 c1
      have HVV := hid hvv
      clear hvv hz hq
      obtain ⟨y0, d0⟩ := HF.out.cell (j * 2 + 0) (by omega)
      obtain ⟨y1, d1⟩ := HF.out.cell (j * 2 + 1) (by omega)
      have f0 := HF.out.frozen
      rw [Nat.add_zero] at d0
      go_wp2
      go_roundw
      case rel =>
        refine ⟨j + 1, by omega, by go_num, ?_, ?_⟩
        · have hf := HF.out.put (x := r[at0]!) (xs := (ps.take j).map fun p => r[p]!) (hk := fun x => rfl) (by simp; omega)
          have hlen : ((ps.take j).map fun p => r[p]!).length = j := by simp; omega
          rw [hlen, HVV.out] at hf
          show Filled _ _ _ _ _ _
          rw [HT.out]
          show Filled _ _ _ _ (_ ++ [r[at0]!]) _
          rw [HVV.out]
          exact hf
        · exact below_sets HB.out (Nat.le_refl _) x.cells (j * 2)
      case measure => simp [intOf]; omega
    · have hks : j = m := by omega
      subst hks
      have hrl : ps.take j = ps := by rw [List.take_of_length_le]; rw [HM.out]; exact Nat.le_refl _
      rw [hrl] at HF
      go_wp2
      go_ret
      exact ⟨_, rfl, HF.out.sl (by simp; exact HM.out) hl, HB.out⟩
end Go.Proofs.Ytoadamimfhjoiaa
