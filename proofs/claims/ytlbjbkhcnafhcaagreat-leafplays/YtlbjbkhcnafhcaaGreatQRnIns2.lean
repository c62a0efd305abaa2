/-
  What Go's slices.Insert returns, of one sample into a row of samples: within it.
-/
import Derived.Test.YtlbjbkhcnafhcaaGreatP13RnCopy
import Derived.Lib.Overlaps
import Derived.Lib.AppendZerosOnto
import Derived.Laws.Externs
namespace Go.Proofs.YtlbjbkhcnafhcaaGreat.RN
open Go.RowKit Go.Sort

theorem flat_split {hs : List Sh} {i : Nat} (hi : i ≤ hs.length) : ((hs.take i).flatMap Sh.cells).length = i * 2 ∧ ((hs.drop i).flatMap Sh.cells).length = (hs.length - i) * 2 ∧ hs.flatMap Sh.cells = (hs.take i).flatMap Sh.cells ++ (hs.drop i).flatMap Sh.cells := by
  refine ⟨?_, ?_, ?_⟩
  · rw [flat_length sh_len, List.length_take, Nat.min_eq_left hi]
  · rw [flat_length sh_len, List.length_drop]
  · rw [← List.flatMap_append, List.take_append_drop]
theorem flat_one (s : Sh) : [s].flatMap Sh.cells = [.int .i64 s.t, s.kv] := rfl
theorem flat_cells1 {hs : List Sh} (h : ∀ x ∈ hs, x.kv.oneCell' = true) : ∀ c ∈ hs.flatMap Sh.cells, c.oneCell' = true := by
  intro c hc
  obtain ⟨y, hy', hcy⟩ := List.mem_flatMap.1 hc
  exact sh_cells (h y hy') c hcy
theorem size32 : (Tryz.prog.info? 105).map (·.size) = some 2 := by kernel_rfl
theorem shape_of {w : World} {b : Nat} {cs : Array Value} {t : TypeId} {fz : Nat × Nat} (h : w.heap[b]? = some (.cells cs t fz)) : w.shape? b = some (t, cs.size) := by simp [World.shape?, h]
theorem overlaps_no {w : World} {vb g o m vc lb cb : Nat} {cs cs' : Array Value} (hv : w.heap[vb]? = some (.cells cs 105)) (hg : w.heap[g]? = some (.cells cs' 105)) (hne : vb ≠ g) (hs : cs'.size ≠ 0) :
    (callFunc 84 #[.slice (some ⟨vb, 0, none⟩) m vc, .slice (some ⟨g, o, none⟩) lb cb]).run Tryz.prog w = .ok (.value (.bool false)) w := by
  rw [run_callFunc_extern Tryz.func84 (by kernel_rfl) (by kernel_rfl) (by kernel_rfl) (e := Extern.SlicesOverlaps.overlaps #[102, 102] #[4]) (by kernel_rfl),
    Lib.run_overlaps_apart w 102 4 105 Tryz.underlying102 2 (fun w => Tryz.sizeOf105 w) ⟨vb, 0, none⟩ ⟨g, o, none⟩ m vc lb cb hne 105 105 cs.size cs'.size (shape_of hv) (shape_of hg) hs (block_frozen hv 0) (block_frozen hv _)]
  rfl
theorem copy_ran {w : World} {g o dLen dCap sLen sCap : Nat} {a : Addr} {cur cs : List Value} {t : TypeId} (hg : w.heap[g]? = some (.cells cur.toArray t (0, 0))) (hn : cs.length = Nat.min sLen dLen * 2)
    (hsrc : ∀ (j : Nat) v, cs[j]? = some v → w.cell? (a.add j) = some v) (hfit : o + cs.length ≤ cur.length) (h1 : ∀ v ∈ cs, v.oneCell' = true) :
    ∃ w', (Builtin.copy_ #[102, 102] 3 #[.slice (some ⟨g, o, none⟩) dLen dCap, .slice (some a) sLen sCap]).run Tryz.prog w = .ok (goInt (Nat.min sLen dLen)) w' ∧ Hid (w'.heap[g]? = some (.cells (splice cur o cs).toArray t (0, 0))) ∧ Hid (Kp (fun x => x = g) w w') :=
  ⟨_, run_copyK (P := Tryz.prog) w 102 102 3 105 g o dLen dCap a sLen sCap cur t cs 2 Tryz.underlying102 size32 hg hn hsrc hfit h1, (show _ = _ by simpa using setRow_heap w g _ _ t _ hg), (show Kp _ _ _ from ⟨rfl, rfl, rfl, by simp [World.setRow], fun i _ hn => setRow_other w g i _ hn⟩)⟩
set_option maxRecDepth 100000 in
set_option maxHeartbeats 2000000 in
theorem ins_shift {B vb n i g c : Nat} {w : World} {hs : List Sh} {s : Sh} (ho : Own Sh.cells 2 105 B w (.slice (some ⟨g, 0, none⟩) n c) hs) (hl : n ≤ 1000) (hn : hs.length = n) (hi : i < n) (hr : n + 1 ≤ c) (hne : vb ≠ g) (hv : w.heap[vb]? = some (.cells #[.int .i64 s.t, s.kv] 105)) (h1 : s.kv.oneCell' = true) (h1s : ∀ x ∈ hs, x.kv.oneCell' = true) :
    Calls Tryz.prog 56 #[.slice (some ⟨g, 0, none⟩) n c, .int .i64 i, .slice (some ⟨vb, 0, none⟩) 1 1] w (InsP B (.slice (some ⟨g, 0, none⟩) n c) (hs.take i ++ s :: hs.drop i) w) := by
  obtain ⟨g', c', cur, hvv, hBg, hblk, hnc, hcm, hcs, htk⟩ : ∃ g' cap cur, Value.slice (some ⟨g, 0, none⟩) n c = .slice (some ⟨g', 0, none⟩) hs.length cap ∧ B ≤ g' ∧ w.heap[g']? = some (.cells cur 105 (0, 0)) ∧ hs.length ≤ cap ∧ cap ≤ maxLen ∧ cur.size = cap * 2 ∧ cur.toList.take (hs.length * 2) = hs.flatMap Sh.cells := by
    rcases ho.2 with ⟨h0, -⟩ | h
    · cases h0
    · exact h
  injection hvv with e1 e2 e3
  injection e1 with e1
  injection e1 with e1
  subst e1 e3
  unfold maxLen at hcm
  rw [hn] at htk
  obtain ⟨l1, l2, hfl⟩ := flat_split (hs := hs) (i := i) (by omega)
  rw [hn] at l2
  obtain ⟨X1, hX1⟩ : ∃ X, X = (hs.take i).flatMap Sh.cells := ⟨_, rfl⟩
  obtain ⟨X2, hX2⟩ : ∃ X, X = (hs.drop i).flatMap Sh.cells := ⟨_, rfl⟩
  rw [← hX1] at l1 hfl
  rw [← hX2] at l2 hfl
  rw [hfl] at htk
  have HTk := hid htk
  have HOv := hid (fun o lb cb => overlaps_no (o := o) (m := 1) (vc := 1) (lb := lb) (cb := cb) hv hblk hne (by omega))
  have HV := hid hv
  have HBk : Hid (w.heap[g]? = some (.cells cur.toList.toArray 105)) := by show _ = _; rw [Array.toArray_toList]; exact hblk
  have H1 := hid h1
  have H1s := hid h1s
  have HX1 := hid hX1
  have HX2 := hid hX2
  have L1 := hid l1
  have L2 := hid l2
  have HBg := hid hBg
  have HCs := hid hcs
  have HCm := hid hcm
  clear ho hv h1 h1s hX1 hX2 htk hfl hblk l1 l2 e2 hBg hcs hnc hcm
  have hcm : c ≤ 9223372036854775807 := HCm.out
  have hci : ¬ (c = i) := by omega
  have hci1 : ¬ (c = i + 1) := by omega
  have hz2 : ¬ ((i : Int) = (n : Int)) := by omega
  have hw1 : IntKind.i64.wrap ((i : Int) + 1) = (i : Int) + 1 := by rw [IntKind.wrap_i64]; omega
  have hb1 : (0 : Int) ≤ (i : Int) + 1 := by omega
  have hb2 : (i : Int) + 1 ≤ (n : Int) + 1 := by omega
  have hb3 : (i : Int) ≤ (n : Int) + 1 := by omega
  have htn : ((i : Int) + 1).toNat = i + 1 := by omega
  have HMn : Hid (([.int .i64 s.t, s.kv] : List Value).length = Nat.min 1 (n + 1 - i) * 2) := by show _ = _; rw [show Nat.min 1 (n + 1 - i) = 1 from Nat.min_eq_left (by omega)]; rfl
  go_enter Tryz.func56, Tryz.ntmps56
  go_wp2_with (simp only [HOv.out])
  have HSrc : Hid (∀ (j : Nat) v, X2[j]? = some v → w.cell? ⟨g, i * 2 + j, none⟩ = some v) := fun j v hj => by
    have h1 : (cur.toList.take (n * 2))[i * 2 + j]? = some v := by rw [HTk.out, List.getElem?_append_right (by rw [L1.out]; omega), L1.out, Nat.add_sub_cancel_left]; exact hj
    rw [List.getElem?_take] at h1
    split at h1
    · rw [block_cell HBk.out]; simpa using h1
    · cases h1
  have HF2 := hid (flat_cells1 (hs := hs.drop i) (fun x hx => H1s.out x (List.mem_of_mem_drop hx)))
  rw [← HX2.out] at HF2
  go_region_law (refine step_copyK rfl (.tmp 73) (.tmp 76) 102 102 rfl 105 2 Tryz.underlying102 size32 g ((i + 1) * 2) (n - i) (c - (i + 1)) ⟨g, i * 2, none⟩ (n + 1 - i) (c - i) (by simp [Act.eval, Act.put]) (by simp [Act.eval, Act.put]) cur.toList 105 HBk.out X2 (by rw [L2.out]; simp only [Nat.min_def]; split <;> omega) (fun j v hj => by rw [Addr.add_lit]; exact HSrc.out j v hj) (by rw [L2.out, Array.length_toList, HCs.out]; omega) HF2.out ?_; intro w2 HB2 HK2)
  have HV2 := hid (HK2.out.blk (show w.drew.heap[vb]? = _ from HV.out) hne)
  have HSr2 : Hid (∀ (j : Nat) v, ([.int .i64 s.t, s.kv] : List Value)[j]? = some v → w2.cell? ((⟨vb, 0, none⟩ : Addr).add j) = some v) := fun j v hj => by
    rw [Addr.add_lit, Nat.zero_add, block_cell HV2.out]; simpa using hj
  have HL2 : Hid ((splice cur.toList ((i + 1) * 2) X2).length = c * 2) := by
    show _ = _
    rw [length_splice _ _ _ (by rw [L2.out, Array.length_toList, HCs.out]; omega), Array.length_toList, HCs.out]
  have HFit : Hid (i * 2 + ([.int .i64 s.t, s.kv] : List Value).length ≤ (splice cur.toList ((i + 1) * 2) X2).length) := by
    show _ ≤ _
    rw [HL2.out]; simp; omega
  have HOne : Hid (∀ v ∈ ([.int .i64 s.t, s.kv] : List Value), v.oneCell' = true) := by
    intro v hv
    simp at hv
    rcases hv with rfl | rfl
    · rfl
    · exact H1.out
  obtain ⟨w3, hr3, HB3, HK3⟩ := copy_ran HB2.out HMn.out HSr2.out HFit.out HOne.out (dCap := c - i) (sCap := 1)
  go_wp2
  go_ret
  have hfin := shift_row (cur := cur.toList) (X1 := X1) (X2 := X2) (Y := [.int .i64 s.t, s.kv]) (i := i * 2) (m := 2) L1.out rfl (by rw [L2.out, ← HTk.out]; congr 1; omega) (by rw [L2.out, Array.length_toList, HCs.out]; omega)
  rw [show i * 2 + 2 = (i + 1) * 2 by omega] at hfin
  refine ⟨.slice (some ⟨g, 0, none⟩) (n + 1) c, rfl, ⟨?_, .inr ⟨g, c, _, by rw [List.length_append, List.length_cons, List.length_take, List.length_drop, hn, Nat.min_eq_left (by omega), show i + (n - i + 1) = n + 1 by omega], HBg.out, HB3.out, ?_, HCm.out, ?_, ?_⟩⟩, ?_, At.refl _ _⟩
  · exact flat_length sh_len _
  · simp; omega
  · show (splice _ _ _).toArray.size = _
    rw [List.size_toArray, hfin.2, Array.length_toList, HCs.out]
  · rw [List.flatMap_append, List.flatMap_cons, ← HX1.out, ← HX2.out, List.toList_toArray]
    have e : (hs.take i ++ s :: hs.drop i).length * 2 = (i + 1) * 2 + X2.length := by rw [L2.out]; simp; omega
    rw [e]
    exact hfin.1
  · have hk : Kp (fun k => (Value.slice (some ⟨g, 0, none⟩) n c).ownBlock = some k) w.drew w2 := ⟨HK2.out.os, HK2.out.tape, HK2.out.output, HK2.out.size, fun k hk hn => HK2.out.block k hk (fun e => hn (by rw [e]; rfl))⟩
    have hk3 : Kp (fun k => (Value.slice (some ⟨g, 0, none⟩) n c).ownBlock = some k) w2 w3 := ⟨HK3.out.os, HK3.out.tape, HK3.out.output, HK3.out.size, fun k hk hn => HK3.out.block k hk (fun e => hn (by rw [e]; rfl))⟩
    exact (Kp.of (Below.refl _ _).drew).trans (hk.trans hk3)
theorem zero_row {X1 Z Z' : List Value} {n i k : Nat} (h1 : X1.length = i * 2) (hz : Z.length = (n + 1 - i) * 2) (hz' : Z'.length = k * 2) (hi : i ≤ n) : ((X1 ++ Z ++ Z').take (i * 2) = X1) ∧ (X1 ++ Z ++ Z').length = (n + 1 + k) * 2 := by
  refine ⟨?_, by simp; omega⟩
  rw [List.append_assoc, List.take_append_of_le_length (by omega), List.take_of_length_le (by omega)]
set_option maxRecDepth 100000 in
set_option maxHeartbeats 2000000 in
theorem ins_grow {B vb n i g : Nat} {w : World} {hs : List Sh} {s : Sh} (ho : Own Sh.cells 2 105 B w (.slice (some ⟨g, 0, none⟩) n n) hs) (hl : n ≤ 1000) (hn : hs.length = n) (hi : i < n) (hB : B ≤ w.heap.size) (hv : w.heap[vb]? = some (.cells #[.int .i64 s.t, s.kv] 105)) (h1 : s.kv.oneCell' = true) (h1s : ∀ x ∈ hs, x.kv.oneCell' = true) :
    Calls Tryz.prog 56 #[.slice (some ⟨g, 0, none⟩) n n, .int .i64 i, .slice (some ⟨vb, 0, none⟩) 1 1] w (InsP B (.slice (some ⟨g, 0, none⟩) n n) (hs.take i ++ s :: hs.drop i) w) := by
  obtain ⟨g', c', cur, hvv, hBg, hblk, hnc, hcm, hcs, htk⟩ : ∃ g' cap cur, Value.slice (some ⟨g, 0, none⟩) n n = .slice (some ⟨g', 0, none⟩) hs.length cap ∧ B ≤ g' ∧ w.heap[g']? = some (.cells cur 105 (0, 0)) ∧ hs.length ≤ cap ∧ cap ≤ maxLen ∧ cur.size = cap * 2 ∧ cur.toList.take (hs.length * 2) = hs.flatMap Sh.cells := by
    rcases ho.2 with ⟨h0, -⟩ | h
    · cases h0
    · exact h
  injection hvv with e1 e2 e3
  injection e1 with e1
  injection e1 with e1
  subst e1 e3
  rw [hn] at htk
  obtain ⟨l1, l2, hfl⟩ := flat_split (hs := hs) (i := i) (by omega)
  rw [hn] at l2
  obtain ⟨X1, hX1⟩ : ∃ X, X = (hs.take i).flatMap Sh.cells := ⟨_, rfl⟩
  obtain ⟨X2, hX2⟩ : ∃ X, X = (hs.drop i).flatMap Sh.cells := ⟨_, rfl⟩
  rw [← hX1] at l1 hfl
  rw [← hX2] at l2 hfl
  rw [hfl] at htk
  have hgw := lt_of_block hblk
  have hvw := lt_of_block hv
  have hcell : ∀ (j : Nat) v, (X1 ++ X2)[j]? = some v → w.cell? ⟨g, j, none⟩ = some v := fun j v hj => by
    rw [← htk, List.getElem?_take] at hj
    split at hj
    · rw [block_cell hblk]; simpa using hj
    · cases hj
  obtain ⟨i0, hi0, hz0, hzs, hzb⟩ := info_parts info32
  have hold : (Builtin.firstCells i0.size i (.slice (some ⟨g, 0, none⟩) i n)).run Tryz.prog w.drew = .ok X1.toArray w.drew := by
    rw [hzs]
    exact run_firstCells_some w.drew 2 i ⟨g, 0, none⟩ i n X1 l1 (fun j v hj => by
      rw [Addr.add_lit, Nat.zero_add]
      exact hcell j v (by rw [List.getElem?_append_left (by exact (List.getElem?_eq_some_iff.1 hj).1)]; exact hj))
  have hkk : (n : Int) + 1 - (i : Int) = ((n + 1 - i : Nat) : Int) := by omega
  have hik : i + (n + 1 - i) = n + 1 := by omega
  obtain ⟨G, hG⟩ : ∃ G, G = grownCap w (n + 1) n 105 := ⟨_, rfl⟩
  have hrz := Lib.run_append_grow_zeros w 102 3 102 105 i0 _ .i64 .i64 Tryz.underlying102 Tryz.underlying3 hi0 hz0 (some ⟨g, 0, none⟩) i n X1 hold (n + 1 - i) (by omega) (by omega) (by omega) (by omega) (by rw [hzb]; omega) (by rw [hzb, hik]; exact growslice_fits (by omega) (by omega))
  rw [hik, ← hG, ← hkk] at hrz
  obtain ⟨ROW, hROW⟩ : ∃ R : List Value, R = X1 ++ (Builtin.zeroCells (Value.agg #[.int .i64 0, .slice none 0 0]).cells (n + 1 - i)).toList ++ (Builtin.zeroCells (Value.agg #[.int .i64 0, .slice none 0 0]).cells (G - (n + 1))).toList := ⟨_, rfl⟩
  have hRa : X1.toArray ++ Builtin.zeroCells (Value.agg #[.int .i64 0, .slice none 0 0]).cells (n + 1 - i) ++ Builtin.zeroCells (Value.agg #[.int .i64 0, .slice none 0 0]).cells (G - (n + 1)) = ROW.toArray := by
    rw [hROW]; apply Array.ext'; simp
  rw [hRa] at hrz
  have hGn : n + 1 ≤ G := by rw [hG]; exact grownCap_ge w _ _ _
  have hG63 : G ≤ maxLen := by rw [hG]; exact grownCap_le_maxLen w (n + 1) n 105 (by unfold maxLen; omega)
  obtain ⟨hR1, hR2⟩ := zero_row (X1 := X1) (n := n) (i := i) (k := G - (n + 1)) l1 (show (Builtin.zeroCells (Value.agg #[.int .i64 0, .slice none 0 0]).cells (n + 1 - i)).toList.length = _ by rw [Array.length_toList, size_zeroCells]; rfl) (show (Builtin.zeroCells (Value.agg #[.int .i64 0, .slice none 0 0]).cells (G - (n + 1))).toList.length = _ by rw [Array.length_toList, size_zeroCells]; rfl) (by omega)
  rw [← hROW] at hR1 hR2
  rw [show n + 1 + (G - (n + 1)) = G by omega] at hR2
  have HR1 := hid hR1
  have HR2 := hid hR2
  obtain ⟨W1, hW1⟩ : ∃ W1, W1 = w.drew.alloc (.cells ROW.toArray 105) := ⟨_, rfl⟩
  rw [← hW1] at hrz
  have HB1 : Hid (W1.heap[w.heap.size]? = some (.cells ROW.toArray 105)) := by show _ = _; rw [hW1]; exact alloc_block w.drew _
  have HW1 : Hid (Below w.heap.size w W1) := by show Below _ _ _; rw [hW1]; exact ((Below.refl _ _).drew).alloc (Nat.le_refl _) _
  have HV := hid hv
  have HCell := hid hcell
  have H1 := hid h1
  have H1s := hid h1s
  have HX1 := hid hX1
  have HX2 := hid hX2
  have L1 := hid l1
  have L2 := hid l2
  have HGm := hid hG63
  have HGn := hid hGn
  have HMn : Hid (([.int .i64 s.t, s.kv] : List Value).length = Nat.min 1 (n + 1 - i) * 2) := by show _ = _; rw [show Nat.min 1 (n + 1 - i) = 1 from Nat.min_eq_left (by omega)]; rfl
  have HSr2 : Hid (∀ (j : Nat) v, ([.int .i64 s.t, s.kv] : List Value)[j]? = some v → W1.cell? ((⟨vb, 0, none⟩ : Addr).add j) = some v) := fun j v hj => by
    rw [Addr.add_lit, Nat.zero_add, block_cell (block_on HV.out HW1.out)]; simpa using hj
  have HFit : Hid (i * 2 + ([.int .i64 s.t, s.kv] : List Value).length ≤ ROW.length) := by
    show _ ≤ _
    rw [HR2.out]; simp; omega
  have HOne : Hid (∀ v ∈ ([.int .i64 s.t, s.kv] : List Value), v.oneCell' = true) := by
    intro v hv
    simp at hv
    rcases hv with rfl | rfl
    · rfl
    · exact H1.out
  obtain ⟨w2, hr2, HB2, HK2⟩ := copy_ran HB1.out HMn.out HSr2.out HFit.out HOne.out (dCap := G - i) (sCap := 1)
  have HF2 := hid (flat_cells1 (hs := hs.drop i) (fun x hx => H1s.out x (List.mem_of_mem_drop hx)))
  rw [← HX2.out] at HF2
  have hgN : g ≠ w.heap.size := by omega
  have HSrc : Hid (∀ (j : Nat) v, X2[j]? = some v → w2.cell? ⟨g, i * 2 + j, none⟩ = some v) := fun j v hj => by
    have h1 := HCell.out (i * 2 + j) v (by rw [List.getElem?_append_right (by rw [L1.out]; omega), L1.out, Nat.add_sub_cancel_left]; exact hj)
    have h2 := cell_onB h1 HW1.out
    rw [World.cell?_of_block (w := W1) (HK2.out.block g (by have := HW1.out.size; show g < W1.heap.size; omega) hgN)]
    exact h2
  clear ho hv h1 h1s hX1 hX2 htk hfl hblk l1 l2 e2 hnc hcm hcs hcell hold hROW hRa hR1 hR2 hkk hik hW1 hG hi0 hz0 hzs hzb hgw hvw hBg
  have hGm : G ≤ 9223372036854775807 := by have := HGm.out; unfold maxLen at this; omega
  have hGi : ¬ (G = i) := by omega
  have hGi1 : ¬ (G = i + 1) := by omega
  have hni : ¬ (n = i) := by omega
  have hz2 : ¬ ((i : Int) = (n : Int)) := by omega
  have hz3 : (n : Int) < (n : Int) + 1 := by omega
  have hw1 : IntKind.i64.wrap ((i : Int) + 1) = (i : Int) + 1 := by rw [IntKind.wrap_i64]; omega
  have hb1 : (0 : Int) ≤ (i : Int) + 1 := by omega
  have hb2 : (i : Int) + 1 ≤ (n : Int) + 1 := by omega
  have hb3 : (i : Int) ≤ (n : Int) + 1 := by omega
  have hb4 : (i : Int) ≤ (n : Int) := by omega
  have htn : ((i : Int) + 1).toNat = i + 1 := by omega
  go_enter Tryz.func56, Tryz.ntmps56
  go_wp2_with (at_builtin; refine Lib.wpList_append_run _ rfl _ _ _ _ rfl _ _ rfl rfl _ _ hrz ?_)
  have HL1 : Hid ((splice ROW (i * 2) [.int .i64 s.t, s.kv]).length = G * 2) := by
    show _ = _
    rw [length_splice _ _ _ HFit.out, HR2.out]
  clear hr2 hrz
  go_region_law (refine step_copyK rfl (.tmp 50) (.tmp 53) 102 102 rfl 105 2 Tryz.underlying102 size32 w.heap.size ((i + 1) * 2) (n - i) (G - (i + 1)) ⟨g, i * 2, none⟩ (n - i) (n - i) (by simp [Act.eval, Act.put]) (by simp [Act.eval, Act.put]) (splice ROW (i * 2) [.int .i64 s.t, s.kv]) 105 HB2.out X2 (by rw [L2.out]; simp only [Nat.min_def]; split <;> omega) (fun j v hj => by rw [Addr.add_lit]; exact HSrc.out j v hj) (by rw [L2.out, HL1.out]; omega) HF2.out ?_; intro w3 HB3 HK3)
  go_wp2
  go_ret
  have hfin := fill_row (cur := ROW) (X1 := X1) (X2 := X2) (Y := [.int .i64 s.t, s.kv]) (i := i * 2) (m := 2) L1.out rfl HR1.out (by rw [L2.out, HR2.out]; omega)
  rw [show i * 2 + 2 = (i + 1) * 2 by omega] at hfin
  refine ⟨.slice (some ⟨w.heap.size, 0, none⟩) (n + 1) G, rfl, ⟨?_, .inr ⟨w.heap.size, G, _, by rw [List.length_append, List.length_cons, List.length_take, List.length_drop, hn, Nat.min_eq_left (by omega), show i + (n - i + 1) = n + 1 by omega], hB, HB3.out, ?_, HGm.out, ?_, ?_⟩⟩, ?_, fun k hk => ?_⟩
  · exact flat_length sh_len _
  · simp; omega
  · show (splice _ _ _).toArray.size = _
    rw [List.size_toArray, hfin.2, HR2.out]
  · rw [List.flatMap_append, List.flatMap_cons, ← HX1.out, ← HX2.out, List.toList_toArray]
    have e : (hs.take i ++ s :: hs.drop i).length * 2 = (i + 1) * 2 + X2.length := by rw [L2.out]; simp; omega
    rw [e]
    exact hfin.1
  · have hk : Kp (fun k => k = w.heap.size) w2.drew w3 := HK3.out
    have hb : Below w.heap.size W1 w3 := (HK2.out.below HW1.out.size (fun k e => by rw [e]; exact Nat.le_refl _)).trans ((Below.refl _ _).drew.trans (hk.below (Nat.le_trans HW1.out.size HK2.out.size) (fun k e => by rw [e]; exact Nat.le_refl _)))
    exact Kp.of (HW1.out.trans hb)
  · cases hk
    exact .inr (Nat.le_refl _)
set_option maxRecDepth 100000 in
theorem insert_any {B vb n i : Nat} {w : World} {pv : Value} {hs : List Sh} {s : Sh} (ho : Own Sh.cells 2 105 B w pv hs) (hl : n ≤ 1000) (hn : hs.length = n) (hi : i ≤ n) (hne : pv.ownBlock ≠ some vb) (hB : B ≤ w.heap.size) (hv : w.heap[vb]? = some (.cells #[.int .i64 s.t, s.kv] 105)) (h1 : s.kv.oneCell' = true) (h1s : ∀ x ∈ hs, x.kv.oneCell' = true) :
    Calls Tryz.prog 56 #[pv, .int .i64 i, .slice (some ⟨vb, 0, none⟩) 1 1] w (InsP B pv (hs.take i ++ s :: hs.drop i) w) := by
  by_cases e : i = n
  · subst e
    rw [List.take_of_length_le (by omega), List.drop_of_length_le (by omega)]
    exact ins_end ho hl hn hB hv h1
  · obtain ⟨p, c, rfl, hc, hm, hp0, hp1⟩ := own_form1 ho hn
    cases p with
    | none => obtain ⟨rfl, -⟩ := hp0 rfl; omega
    | some ad =>
      obtain ⟨g, rfl⟩ := hp1 ad rfl
      by_cases hr : n + 1 ≤ c
      · exact ins_shift ho hl hn (by omega) hr (fun e => hne (by rw [e]; rfl)) hv h1 h1s
      · obtain rfl : c = n := by omega
        exact ins_grow ho hl hn (by omega) hB hv h1 h1s
end Go.Proofs.YtlbjbkhcnafhcaaGreat.RN
