/-
  What table.pick returns, for values and for columns.
  What table.placesOf returns, for all names and columns.
-/
import Derived.Test.YtjfholofgohcjaaPD
import Derived.Laws.IdiomCopy
namespace Go.Proofs.Ytjfholofgohcjaa
open Go.RowKit Go.Sort Go.Shelf

def encN (n : Nat) : List Value := [.int .i64 (n : Int)]
theorem take_map_snoc_gen {β : Type} {ps : List Nat} {f : Nat → β} {k : Nat} (h : k < ps.length) : (ps.take (k + 1)).map f = (ps.take k).map f ++ [f ps[k]!] := by
  have e : ps[k]! = ps[k] := by rw [List.getElem!_eq_getElem?_getD, List.getElem?_eq_getElem h]; rfl
  rw [List.take_succ_eq_append_getElem h, List.map_append, e]; rfl
/- A block of m elements of k cells, whose first ones are these. -/
structure Filled {α : Type} (enc : α → List Value) (k B m : Nat) (xs : List α) (w : World) : Prop where
  lt : B < w.heap.size
  cell : ∀ i, i < m * k → ∃ y, w.cell? ⟨B, i, none⟩ = some y
  frozen : ∀ i, w.frozen? ⟨B, i, none⟩ = false
  held : ∀ (j : Nat) x, xs[j]? = some x → CellsAt w B (j * k) (enc x)
theorem Filled.start {α : Type} (enc : α → List Value) (k m e : Nat) (w : World) {C : Array Value} (hc : C.size = m * k) : Filled enc k w.heap.size m ([] : List α) (w.alloc (.cells C e)) := by
  have hb := alloc_block w (.cells C e)
  refine ⟨by simp, fun i hi => ⟨C[i]'(by omega), ?_⟩, fun i => frozen_no hb i, fun j x h => by simp at h⟩
  rw [block_cell hb]; exact Array.getElem?_eq_getElem _
theorem frozen_sets (b : Nat) : ∀ (vs : List Value) (o : Nat) (w : World) (a : Addr), (w.setCells b o vs).frozen? a = w.frozen? a
  | [], _, _, _ => rfl
  | v :: vs, o, w, a => by rw [World.setCells, frozen_sets b vs]; simp
theorem below_sets {B : Nat} {w w' : World} {R : Nat} (h : Below B w w') (hR : B ≤ R) : ∀ (vs : List Value) (o : Nat), Below B w (w'.setCells R o vs)
  | [], _ => h
  | v :: vs, o => by rw [World.setCells]; exact below_sets (below_set h hR) hR vs (o + 1)
theorem size_sets (b : Nat) : ∀ (vs : List Value) (o : Nat) (w : World), (w.setCells b o vs).heap.size = w.heap.size
  | [], _, _ => rfl
  | v :: vs, o, w => by rw [World.setCells, size_sets b vs, World.size_setCell]
theorem Filled.put {α : Type} {enc : α → List Value} {k B m : Nat} {xs : List α} {w : World} {x : α} (h : Filled enc k B m xs w) (hk : ∀ x, (enc x).length = k) (hkm : (xs.length + 1) * k ≤ m * k) : Filled enc k B m (xs ++ [x]) (w.setCells B (xs.length * k) (enc x)) := by
  have hin := World.cell?_setCells_in B (enc x) (xs.length * k) w (fun j hj => by
    rw [hk] at hj
    obtain ⟨y, hy⟩ := h.cell (xs.length * k + j) (by rw [Nat.succ_mul] at hkm; omega)
    rw [hy]; rfl)
  have hout := fun a => World.cell?_setCells_out B (enc x) (xs.length * k) w a
  refine ⟨by rw [size_sets]; exact h.lt, fun i hi => ?_, fun i => by rw [frozen_sets]; exact h.frozen i, fun j y hy i u hu => ?_⟩
  · by_cases hc : i < xs.length * k ∨ xs.length * k + (enc x).length ≤ i
    · obtain ⟨y, hy⟩ := h.cell i hi
      exact ⟨y, (hout ⟨B, i, none⟩ (fun _ _ => hc)).trans hy⟩
    · have hj : i - xs.length * k < (enc x).length := by omega
      have := hin (i - xs.length * k) hj
      rw [show xs.length * k + (i - xs.length * k) = i from by omega] at this
      exact ⟨_, this⟩
  · have hiu : i < k := by
      have := (List.getElem?_eq_some_iff.1 hu).1
      rwa [hk] at this
    by_cases hj : j < xs.length
    · rw [List.getElem?_append_left hj] at hy
      have h1 := h.held j y hy i u hu
      have h2 : j * k + i < xs.length * k := by
        have : (j + 1) * k ≤ xs.length * k := Nat.mul_le_mul_right k hj
        rw [Nat.succ_mul] at this; omega
      exact (hout ⟨B, j * k + i, none⟩ (fun _ _ => Or.inl h2)).trans h1
    · rw [List.getElem?_append_right (by omega)] at hy
      cases hd : j - xs.length with
      | succ d => rw [hd] at hy; simp at hy
      | zero =>
        rw [hd] at hy
        simp at hy
        subst hy
        have hje : j = xs.length := by omega
        subst hje
        have hlt := (List.getElem?_eq_some_iff.1 hu).1
        have := hin i hlt
        rw [this, (List.getElem?_eq_some_iff.1 hu).2]
theorem Filled.sl {α : Type} {enc : α → List Value} {k B m : Nat} {xs : List α} {w : World} (h : Filled enc k B m xs w) (hl : xs.length = m) (hm : m ≤ 4096) : SlAt (fun b => B ≤ b) enc k w (.slice (some ⟨B, 0, none⟩) m m) xs := by
  refine ⟨some ⟨B, 0, none⟩, m, by rw [hl], ⟨by omega, fun e => by cases e⟩, by unfold maxLen; omega, fun _ => ⟨B, 0, rfl, ⟨Nat.le_refl _, by unfold bsz; split <;> omega⟩, fun j x hj => ?_⟩⟩
  rw [Nat.zero_add]; exact h.held j x hj

theorem make_pickV (n : Nat) (hn : n ≤ 4096) (W : World) : (Instr.makeSlice 65 (.int .i64 (n : Int)) (.int .i64 (n : Int))).run Try.prog W = .ok (.slice (some ⟨W.heap.size, 0, none⟩) n n) (W.alloc (.cells (madeCells (V 0 0 ⟨#[]⟩ 0 0 0 0 0 0 0 0).cells (n * 11)) 44)) := by
  obtain ⟨i, hi, h0, h1, h2⟩ := info_parts info48
  have h := run_make W 65 44 i _ Try.underlying65 hi h0 .i64 .i64 (n : Int) (n : Int) (by omega) (Int.le_refl _) (by rw [h2]; omega) (by omega)
  rw [h, h1, Int.toNat_natCast]
set_option maxHeartbeats 2000000 in
theorem pickV_any {u pv : Value} {r : List Vl} {ps : List Nat} {w : World} (hu : SlAt any Vl.cells 11 w u r) (hp : SlAt any encN 1 w pv ps) (hps : ∀ p ∈ ps, p < r.length) (hl : ps.length ≤ 4096) :
    Calls Try.prog 53 #[u, pv] w fun e w' => ∃ v', e = .returned v' ∧ SlAt (fun b => w.heap.size ≤ b) Vl.cells 11 w' v' (ps.map fun p => r[p]!) ∧ Below w.heap.size w w' := by
  obtain ⟨p, cap, rfl, hcap, hmax, hx⟩ := hu
  obtain ⟨p', cap', rfl, hcap', hmax', hx'⟩ := hp
  unfold maxLen at hmax hmax'
  have HX := hid hx
  have HX' := hid hx'
  have HP := hid hps
  clear hx hx' hps
  generalize hn : r.length = n at *
  generalize hm : ps.length = m at *
  have HN := hid hn
  have HM := hid hm
  clear hn hm
  have hmk := make_pickV m hl
  go_enter Try.func53, Try.ntmps53
  go_wp2
  go_loopw [13] (fun i wr => ∃ j : Nat, j ≤ m ∧ i = .int .i64 j ∧ Hid (Filled Vl.cells 11 w.heap.size m ((ps.take j).map fun p => r[p]!) wr) ∧ Hid (Below w.heap.size w wr)) (fun i _ => m - (intOf i).toNat)
  case atStart => exact ⟨0, by omega, rfl, Filled.start _ _ _ _ _ (size_madeCells _ _), (Below.refl _ _).alloc (Nat.le_refl _) _⟩
  case round =>
    obtain ⟨j, hj, rfl, HF, HB⟩ := hrel
    by_cases hlt : j < m
    · have hjp : j < ps.length := by rw [HM.out]; exact hlt
      obtain ⟨b', o', rfl, -, hq⟩ := HX'.out (by intro e; subst e; simp at hjp)
      have hd : wr.cell? ⟨b', o' + j, none⟩ = some (.int .i64 (ps[j]! : Nat)) := by
        have := ((hq j _ (get!_some hjp)).on HB.out) 0 _ rfl
        simpa using this
      have hat : ps[j]! < n := HP.out _ (List.mem_of_getElem? (get!_some hjp))
      have HT := hid (take_map_snoc_gen (f := fun p => r[p]!) hjp)
      generalize ps[j]! = at0 at hd hat HT
      have hat' : at0 < r.length := by rw [HN.out]; exact hat
      obtain ⟨b, o, rfl, -, hz⟩ := HX.out (by intro e; subst e; simp at hat')
      obtain ⟨c0, c1, c2, c3, c4, c5, c6, c7, c8, c9, c10⟩ := val_cells ((hz at0 _ (get!_some hat')).on HB.out)
      generalize hvv : r[at0]! = x at c0 c1 c2 c3 c4 c5 c6 c7 c8 c9 c10
      have HVV := hid hvv
      clear hvv hz hq
      obtain ⟨y0, d0⟩ := HF.out.cell (j * 11 + 0) (by omega)
      obtain ⟨y1, d1⟩ := HF.out.cell (j * 11 + 1) (by omega)
      obtain ⟨y2, d2⟩ := HF.out.cell (j * 11 + 2) (by omega)
      obtain ⟨y3, d3⟩ := HF.out.cell (j * 11 + 3) (by omega)
      obtain ⟨y4, d4⟩ := HF.out.cell (j * 11 + 4) (by omega)
      obtain ⟨y5, d5⟩ := HF.out.cell (j * 11 + 5) (by omega)
      obtain ⟨y6, d6⟩ := HF.out.cell (j * 11 + 6) (by omega)
      obtain ⟨y7, d7⟩ := HF.out.cell (j * 11 + 7) (by omega)
      obtain ⟨y8, d8⟩ := HF.out.cell (j * 11 + 8) (by omega)
      obtain ⟨y9, d9⟩ := HF.out.cell (j * 11 + 9) (by omega)
      obtain ⟨y10, d10⟩ := HF.out.cell (j * 11 + 10) (by omega)
      have f0 := HF.out.frozen
      rw [Nat.add_zero] at d0
      go_wp2
      go_roundw
      case rel =>
        refine ⟨j + 1, by omega, by go_num, ?_, ?_⟩
        · have hf := HF.out.put (x := r[at0]!) (xs := (ps.take j).map fun p => r[p]!) (hk := fun x => rfl) (by simp; omega)
          have hlen : ((ps.take j).map fun p => r[p]!).length = j := by simp; omega
          rw [hlen, HVV.out] at hf
          show Filled _ _ _ _ _ _
          rw [HT.out]
          show Filled _ _ _ _ (_ ++ [r[at0]!]) _
          rw [HVV.out]
          exact hf
        · exact below_sets HB.out (Nat.le_refl _) x.cells (j * 11)
      case measure => simp [intOf]; omega
    · have hks : j = m := by omega
      subst hks
      have hrl : ps.take j = ps := by rw [List.take_of_length_le]; rw [HM.out]; exact Nat.le_refl _
      rw [hrl] at HF
      go_wp2
      go_ret
      exact ⟨_, rfl, HF.out.sl (by simp; exact HM.out) hl, HB.out⟩

theorem make_pickC (n : Nat) (hn : n ≤ 4096) (W : World) : (Instr.makeSlice 22 (.int .i64 (n : Int)) (.int .i64 (n : Int))).run Try.prog W = .ok (.slice (some ⟨W.heap.size, 0, none⟩) n n) (W.alloc (.cells (madeCells (Value.agg #[.string ⟨#[]⟩, .int .i64 0]).cells (n * 2)) 32)) := by
  obtain ⟨i, hi, h0, h1, h2⟩ := info_parts info45
  have h := run_make W 22 32 i _ Try.underlying22 hi h0 .i64 .i64 (n : Int) (n : Int) (by omega) (Int.le_refl _) (by rw [h2]; omega) (by omega)
  rw [h, h1, Int.toNat_natCast]
set_option maxHeartbeats 2000000 in
theorem pickC_any {u pv : Value} {r : List Cl} {ps : List Nat} {w : World} (hu : SlAt any Cl.cells 2 w u r) (hp : SlAt any encN 1 w pv ps) (hps : ∀ p ∈ ps, p < r.length) (hl : ps.length ≤ 4096) :
    Calls Try.prog 55 #[u, pv] w fun e w' => ∃ v', e = .returned v' ∧ SlAt (fun b => w.heap.size ≤ b) Cl.cells 2 w' v' (ps.map fun p => r[p]!) ∧ Below w.heap.size w w' := by
  obtain ⟨p, cap, rfl, hcap, hmax, hx⟩ := hu
  obtain ⟨p', cap', rfl, hcap', hmax', hx'⟩ := hp
  unfold maxLen at hmax hmax'
  have HX := hid hx
  have HX' := hid hx'
  have HP := hid hps
  clear hx hx' hps
  generalize hn : r.length = n at *
  generalize hm : ps.length = m at *
  have HN := hid hn
  have HM := hid hm
  clear hn hm
  have hmk := make_pickC m hl
  go_enter Try.func55, Try.ntmps55
  go_wp2
  go_loopw [13] (fun i wr => ∃ j : Nat, j ≤ m ∧ i = .int .i64 j ∧ Hid (Filled Cl.cells 2 w.heap.size m ((ps.take j).map fun p => r[p]!) wr) ∧ Hid (Below w.heap.size w wr)) (fun i _ => m - (intOf i).toNat)
  case atStart => exact ⟨0, by omega, rfl, Filled.start _ _ _ _ _ (size_madeCells _ _), (Below.refl _ _).alloc (Nat.le_refl _) _⟩
  case round =>
    obtain ⟨j, hj, rfl, HF, HB⟩ := hrel
    by_cases hlt : j < m
    · have hjp : j < ps.length := by rw [HM.out]; exact hlt
      obtain ⟨b', o', rfl, -, hq⟩ := HX'.out (by intro e; subst e; simp at hjp)
      have hd : wr.cell? ⟨b', o' + j, none⟩ = some (.int .i64 (ps[j]! : Nat)) := by
        have := ((hq j _ (get!_some hjp)).on HB.out) 0 _ rfl
        simpa using this
      have hat : ps[j]! < n := HP.out _ (List.mem_of_getElem? (get!_some hjp))
      have HT := hid (take_map_snoc_gen (f := fun p => r[p]!) hjp)
      generalize ps[j]! = at0 at hd hat HT
      have hat' : at0 < r.length := by rw [HN.out]; exact hat
      obtain ⟨b, o, rfl, -, hz⟩ := HX.out (by intro e; subst e; simp at hat')
      obtain ⟨c0, c1⟩ := col_cells ((hz at0 _ (get!_some hat')).on HB.out)
      generalize hvv : r[at0]! = x at c0 c1
      have HVV := hid hvv
      clear hvv hz hq
      obtain ⟨y0, d0⟩ := HF.out.cell (j * 2 + 0) (by omega)
      obtain ⟨y1, d1⟩ := HF.out.cell (j * 2 + 1) (by omega)
      have f0 := HF.out.frozen
      rw [Nat.add_zero] at d0
      go_wp2
      go_roundw
      case rel =>
        refine ⟨j + 1, by omega, by go_num, ?_, ?_⟩
        · have hf := HF.out.put (x := r[at0]!) (xs := (ps.take j).map fun p => r[p]!) (hk := fun x => rfl) (by simp; omega)
          have hlen : ((ps.take j).map fun p => r[p]!).length = j := by simp; omega
          rw [hlen, HVV.out] at hf
          show Filled _ _ _ _ _ _
          rw [HT.out]
          show Filled _ _ _ _ (_ ++ [r[at0]!]) _
          rw [HVV.out]
          exact hf
        · exact below_sets HB.out (Nat.le_refl _) x.cells (j * 2)
      case measure => simp [intOf]; omega
    · have hks : j = m := by omega
      subst hks
      have hrl : ps.take j = ps := by rw [List.take_of_length_le]; rw [HM.out]; exact Nat.le_refl _
      rw [hrl] at HF
      go_wp2
      go_ret
      exact ⟨_, rfl, HF.out.sl (by simp; exact HM.out) hl, HB.out⟩
end Go.Proofs.Ytjfholofgohcjaa
namespace Go.Proofs.Ytjfholofgohcjaa
open Go.RowKit Go.Sort Go.Shelf

def encS (s : ByteArray) : List Value := [.string s]
abbrev NamesAt (w : World) (v : Value) (ns : List ByteArray) : Prop := SlAt any encS 1 w v ns
def places (cs : List Cl) : List ByteArray → List Nat → List Nat
  | [], acc => acc
  | nm :: r, acc => if findC cs nm < 0 ∨ (findC cs nm).toNat ∈ acc then [] else places cs r (acc ++ [(findC cs nm).toNat])
theorem places_step {cs : List Cl} {ns : List ByteArray} {acc : List Nat} {k : Nat} (h : k < ns.length) : places cs (ns.drop k) acc = if findC cs ns[k]! < 0 ∨ (findC cs ns[k]!).toNat ∈ acc then [] else places cs (ns.drop (k + 1)) (acc ++ [(findC cs ns[k]!).toNat]) := by
  have e : ns[k]! = ns[k] := by rw [List.getElem!_eq_getElem?_getD, List.getElem?_eq_getElem h]; rfl
  rw [List.drop_eq_getElem_cons h, e]; rfl
theorem findC_lt (cs : List Cl) (nm : ByteArray) : findC cs nm < cs.length := by
  have gen : ∀ (l : List Cl) (i : Nat), Lib.idxByFrom (fun _ y => isNm nm y) default l i < (i : Int) + l.length := by
    intro l
    induction l with
    | nil => intro i; simp [Lib.idxByFrom]; omega
    | cons c r ih =>
      intro i
      have := ih (i + 1)
      simp only [Lib.idxByFrom, List.length_cons]
      split <;> omega
  have := gen cs 0
  simpa [findC, Lib.idxBy] using this
theorem contains_any {v : Value} {acc : List Nat} {p : Nat} {c : Bool} {w : World} (hv : SlAt any encN 1 w v acc) (h : decide (p ∈ acc) = c) :
    Calls Try.prog 98 #[v, .int .i64 (p : Int)] w fun e w' => e = .returned (.bool c) ∧ w' = w := by
  subst h
  obtain ⟨q, cap, rfl, hcap, hmax, hx⟩ := hv
  by_cases hn : acc = []
  · subst hn
    exact Try.slices_Contains_int_empty q cap p w
  · obtain ⟨b, o, rfl, -, hj⟩ := hx hn
    have hlen : (acc.map (fun n : Nat => (n : Int))).length = acc.length := by simp
    have h := Try.slices_Contains_int b o acc.length cap (acc.map (fun n : Nat => (n : Int))) p w (by rw [hlen]; exact Nat.le_refl _) hmax (fun j hjl => by
      rw [hlen] at hjl
      have := hj j _ (get!_some hjl) 0 _ rfl
      rw [Nat.mul_one, Nat.add_zero] at this
      rw [this, List.getD_eq_getElem?_getD, List.getElem?_map, List.getElem!_eq_getElem?_getD, List.getElem?_eq_getElem hjl]; rfl)
    rw [List.take_of_length_le (by rw [hlen]; exact Nat.le_refl _)] at h
    have e : (acc.map (fun n : Nat => (n : Int))).contains (p : Int) = decide (p ∈ acc) := by
      rw [Bool.eq_iff_iff]
      simp only [List.contains_iff_mem, List.mem_map, decide_eq_true_eq]
      constructor
      · rintro ⟨a, ha, he⟩; have : a = p := by omega
        rw [← this]; exact ha
      · intro h; exact ⟨p, h, rfl⟩
    rw [e] at h; exact h
theorem find_is {v : Value} {cs : List Cl} {nm : ByteArray} {w : World} {f : Int} (hv : ColsAt w v cs) (h : findC cs nm = f) :
    Calls Try.prog 48 #[v, .string nm] w fun e w' => e = .returned (.int .i64 f) ∧ Below w.heap.size w w' := by rw [← h]; exact find_any hv
theorem Own.on {α : Type} {enc : α → List Value} {k e B : Nat} {w w' : World} {v : Value} {xs : List α} (h : Own enc k e B w v xs) (hb : Below w.heap.size w w') : Own enc k e B w' v xs :=
  ⟨h.1, h.2.elim Or.inl (fun ⟨g, cap, cur, hv, hg, hblk, r⟩ => Or.inr ⟨g, cap, cur, hv, hg, block_on hblk hb, r⟩)⟩
theorem small1 {n : Nat} (h : n ≤ 4096) : n * bsz 1 ≤ 140737488355328 := by
  have e : bsz 1 = 24 := rfl
  rw [e]; omega
theorem lit_sl {α : Type} {enc : α → List Value} {k : Nat} {w : World} {B n cap : Nat} {C : Array Value} {e : TypeId} {xs : List α} (hb : w.heap[B]? = some (.cells C e (0, 0))) (hk : ∀ x, (enc x).length = k) (hC : C.toList = xs.flatMap enc) (hn : n = xs.length) (hcap : n ≤ cap) (hl : xs.length ≤ 4096) : SlAt (fun b => b = B) enc k w (.slice (some ⟨B, 0, none⟩) n cap) xs := by
  subst hn
  refine ⟨some ⟨B, 0, none⟩, cap, rfl, ⟨hcap, fun e => by cases e⟩, by unfold maxLen; omega, fun _ => ⟨B, 0, rfl, ⟨rfl, by unfold bsz; split <;> omega⟩, fun j x hx i u hu => ?_⟩⟩
  have h := flat_get hk xs j x hx i u hu
  rw [block_cell hb, ← Array.getElem?_toList, hC, Nat.zero_add]; exact h
set_option maxHeartbeats 1000000 in
theorem places_any {u v : Value} {ns : List ByteArray} {cs : List Cl} {w : World} (hu : NamesAt w u ns) (hv : ColsAt w v cs) (hl : ns.length ≤ 4096) :
    Calls Try.prog 51 #[u, v] w fun e w' => ∃ v', e = .returned v' ∧ SlAt any encN 1 w' v' (places cs ns []) ∧ ((∀ p ∈ places cs ns [], p < cs.length) ∧ (places cs ns []).length ≤ 4096) ∧ Below w.heap.size w w' := by
  obtain ⟨p, cap, rfl, hcap, hmax, hx⟩ := hu
  have HX := hid hx
  have HV := hid hv
  obtain ⟨pc, capc, rfl, -⟩ := hv
  clear hx hmax hcap
  have HFL := hid (findC_lt cs)
  generalize cs.length = nc at *
  generalize hr : places cs ns [] = res
  have HR := hid hr
  clear hr
  generalize hn : ns.length = n at *
  have HN := hid hn
  clear hn
  go_enter Try.func51, Try.ntmps51
  go_wp2
  go_loopw [5, 11] (fun v5 i wr => ∃ (k : Nat) (acc : List Nat), k ≤ n ∧ i = .int .i64 k ∧ acc.length ≤ k ∧ Hid (Own encN 1 3 w.heap.size wr v5 acc) ∧ Hid (places cs (ns.drop k) acc = res) ∧ Hid (∀ p ∈ acc, p < nc) ∧ Hid (Below w.heap.size w wr)) (fun _ i _ => n - (intOf i).toNat)
  case atStart => exact ⟨0, [], by omega, rfl, by simp, Own.nil _ _ _ _ _, HR.out, fun p h => by simp at h, Below.refl _ _⟩
  case round =>
    rename_i s5 s11
    obtain ⟨k, acc, hk, rfl, hal, HO, HD, HP, HB⟩ := hrel
    by_cases hlt : k < n
    · have hkn : k < ns.length := by rw [HN.out]; exact hlt
      obtain ⟨b, o, rfl, -, hj⟩ := HX.out (by intro e; subst e; simp at hkn)
      have hd : wr.cell? ⟨b, o + k, none⟩ = some (.string ns[k]!) := by
        have := ((hj k _ (get!_some hkn)).on HB.out) 0 _ rfl
        simpa using this
      have HS := hid ((places_step (cs := cs) (acc := acc) hkn).symm.trans HD.out)
      generalize ns[k]! = nm at hd HS
      clear hj
      have hfl := HFL.out nm
      generalize hf : findC cs nm = f at *
      have HF := hid hf
      clear hf
      by_cases hneg : f < 0
      · go_wp2_with (first | (go_at_call 48; refine (find_is (HV.out.on HB.out) HF.out).mono ?_; rintro e w1 ⟨rfl, hb1⟩; have HB1 := hid (below_on HB.out hb1); clear hb1))
        go_ret
        have he := HS.out
        rw [if_pos (Or.inl hneg)] at he
        subst he
        exact ⟨_, rfl, SlAt.nil _ _ _ _, ⟨fun p h => by simp at h, by simp⟩, HB1.out⟩
      · obtain ⟨at0, rfl⟩ : ∃ at0 : Nat, f = at0 := ⟨f.toNat, by omega⟩
        rw [Int.toNat_natCast] at HS
        have hnn : ¬ ((at0 : Int) < 0) := by omega
        cases hmem : decide (at0 ∈ acc) with
        | true =>
          go_wp2_with (first | (go_at_call 48; refine (find_is (HV.out.on HB.out) HF.out).mono ?_; rintro e w1 ⟨rfl, hb1⟩; have HB1 := hid (below_on HB.out hb1); have HO1 := hid (HO.out.on hb1); clear hb1) | (go_at_call 98; refine (contains_any ((Own.sl HO1.out (fun _ => rfl) (small1 (by omega))).imp (fun _ _ => trivial)) hmem).mono ?_; rintro e w2 ⟨rfl, hw2⟩; subst hw2))
          go_ret
          have he := HS.out
          rw [if_pos (Or.inr (of_decide_eq_true hmem))] at he
          subst he
          exact ⟨_, rfl, SlAt.nil _ _ _ _, ⟨fun p h => by simp at h, by simp⟩, HB1.out⟩
        | false =>
          go_wp2_with (first | (go_at_call 48; refine (find_is (HV.out.on HB.out) HF.out).mono ?_; rintro e w1 ⟨rfl, hb1⟩; have HB1 := hid (below_on HB.out hb1); have HO1 := hid (HO.out.on hb1); clear hb1) | (go_at_call 98; refine (contains_any ((Own.sl HO1.out (fun _ => rfl) (small1 (by omega))).imp (fun _ _ => trivial)) hmem).mono ?_; rintro e w2 ⟨rfl, hw2⟩; subst hw2) | (at_builtin; refine app_any elem3 (fun _ => rfl) (ys := [at0]) (fun x _ c hc => by simp [encN] at hc; subst hc; rfl) rfl _ _ rfl rfl (HO1.out.on ((Below.refl _ _).alloc (Nat.le_refl _) _)) rfl (lit_sl (alloc_block _ _) (fun _ => rfl) rfl rfl (Nat.le_refl _) (by simp)) (small1 (by simp; omega)) (by have := HB1.out.size; simp; omega) ?_; intro v' w3 hown hb3))
          go_roundw
          case rel =>
            refine ⟨k + 1, acc ++ [at0], by omega, by go_num, by simp; omega, hown, ?_, ?_, ?_⟩
            · have he := HS.out
              rw [if_neg (by intro h; rcases h with h | h; · omega
                             · exact of_decide_eq_false hmem h)] at he
              exact he
            · show ∀ p ∈ _, _
              intro p hp
              rcases List.mem_append.1 hp with h | h
              · exact HP.out p h
              · simp at h; subst h; omega
            · exact (HB1.out.alloc HB1.out.size _).trans hb3
          case measure => simp [intOf]; omega
    · have hks : k = n := by omega
      subst hks
      have hd : ns.drop k = [] := List.drop_eq_nil_of_le (by rw [HN.out]; exact Nat.le_refl _)
      rw [hd] at HD
      have he : acc = res := HD.out
      subst he
      go_wp2
      go_ret
      exact ⟨_, rfl, (Own.sl HO.out (fun _ => rfl) (small1 (by omega))).imp (fun _ _ => trivial), ⟨HP.out, by omega⟩, HB.out⟩
end Go.Proofs.Ytjfholofgohcjaa
