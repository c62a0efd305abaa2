/-
  The reference's Write, for every leaf and every point; its Scan where there is no such schema.
  slices.SortFunc of rows: what else stays.
  table.inOrder, its rows told as blocks that may be written.
-/
import Derived.Test.YtlbjbkhcnafhcaaGreatQLRefX
import Derived.Test.YtlbjbkhcnafhcaaGreatQLScan
namespace Go.Proofs.YtlbjbkhcnafhcaaGreat
open Go.RowKit Go.Sort Go.Shelf Go.Maps

theorem rfwrite_any {B : Nat} {P : Nat → Prop} {w : World} {yb : Nat} {ps : Option Addr} {ns cs : Nat} {S : List Sc} {room : Int} {v : Value} {pts : List Pt} {u : Value} {p : Pt} (h : Rf B P w yb (.slice ps ns cs) room v pts) (hs : SchsAt w (.slice ps ns cs) S) (hp : PtAt w u p) (hl : pts.length ≤ 1000) (hP : ∀ k, w.heap.size ≤ k → P k) :
    Calls Tryz.prog 12 #[dp yb, u] w fun e w' => e = .returned (.tuple #[.bool (wrN S room pts p), .int .i64 (wrE S room pts p)]) ∧ Rw3 B P w yb (.slice ps ns cs) room v (wrL S room pts p) w' := by
  have stay : ∀ w', Below w.heap.size w w' → Rw3 B P w yb (.slice ps ns cs) room v pts w' := fun w' hb => ⟨v, h.on hb, Kp.of hb, fun k hk => .inl hk⟩
  by_cases hf : fitsS S p = 0
  · cases hn : wrN S room pts p with
    | true =>
      have hE := wrE_new hn
      have hr := wrN_room hn
      have hh : hasP pts p = false := by
        simp only [wrN, Bool.and_eq_true, Bool.not_eq_true', decide_eq_true_eq] at hn
        exact hn.2.1
      refine (rfwrite_yes h hs hp hl hf hh hr hP).mono ?_
      rintro e w' ⟨rfl, hw⟩
      refine ⟨by rw [hE], ?_⟩
      unfold wrL
      rw [hn, if_pos rfl]
      exact hw
    | false =>
      refine (rfwrite_no h hs hp hl hf hn rfl).mono ?_
      rintro e w' ⟨rfl, hw⟩
      refine ⟨rfl, ?_⟩
      unfold wrL
      rw [hn, if_neg (by decide)]
      exact stay w' hw
  · have hn : wrN S room pts p = false := by simp [wrN, hf]
    have hE : wrE S room pts p = fitsS S p := if_neg hf
    refine (rfwrite_unfit h hs hp hl rfl hf).mono ?_
    rintro e w' ⟨rfl, hw⟩
    refine ⟨by rw [hn, hE], ?_⟩
    unfold wrL
    rw [hn, if_neg (by decide)]
    exact stay w' hw
set_option maxRecDepth 100000 in
set_option maxHeartbeats 2000000 in
theorem rfscan_none {B : Nat} {P : Nat → Prop} {w : World} {yb : Nat} {ps : Option Addr} {ns cs : Nat} {S : List Sc} {room : Int} {v : Value} {pts : List Pt} {nm : ByteArray} {a z : Int} (h : Rf B P w yb (.slice ps ns cs) room v pts) (hs : SchsAt w (.slice ps ns cs) S) (hn : atS S nm < 0) :
    Calls Tryz.prog 14 #[dp yb, .string nm, .int .i64 a, .int .i64 z] w (ScP w S pts nm a z) := by
  have hB0 := (Below.refl w.heap.size w).alloc (Nat.le_refl _) (.cells #[.slice none 0 0, .slice none 0 0] 44)
  have HB0 := hid hB0
  have KB0 := hid (alloc_block w (.cells #[.slice none 0 0, .slice none 0 0] 44))
  have hk0 := block_cell (h.on hB0).blk 0
  have HSc := hid (hs.on hB0)
  have HN := hid hn
  have E1 : Hid (scE S nm = 50) := if_pos hn
  have E2 : Hid (scC S nm = []) := if_pos hn
  have E3 : Hid (scR S pts nm a z = []) := if_pos hn
  clear h hs hB0 hn
  go_enter Tryz.func14, Tryz.ntmps14
  go_wp2_with (first
    | (go_at_call 38; refine (rfind_none HSc.out HN.out).mono ?_; rintro e w1 ⟨rfl, hb1⟩; have HB1 := hid (HB0.out.trans (hb1.mono HB0.out.size)); have KB1 := hid (block_on KB0.out hb1); have k1 := block_cell KB1.out; have f1 := frozen_no KB1.out; have k1a : ∀ (A : Obj) (i : Nat), (w1.alloc A).cell? ⟨w.heap.size, i, none⟩ = (#[.slice none 0 0, .slice none 0 0] : Array Value)[i]? := fun A i => block_cell (block_on KB1.out ((Below.refl _ _).alloc (Nat.le_refl _) A)) i; have f1a : ∀ (A : Obj) (i : Nat), (w1.alloc A).frozen? ⟨w.heap.size, i, none⟩ = false := fun A i => frozen_no (block_on KB1.out ((Below.refl _ _).alloc (Nat.le_refl _) A)) i; clear hb1 hk0))
  have KA := block_on KB1.out ((Below.refl _ _).alloc (Nat.le_refl _) (.cells #[.string ⟨#[]⟩, .slice none 0 0, .slice none 0 0] 52))
  have KF := Joins.block_setCell (i := 1) (Joins.block_setCell (i := 0) KA (.slice none 0 0)) (.slice none 0 0)
  have HBF : Below w.heap.size w (((w1.alloc (.cells #[.string ⟨#[]⟩, .slice none 0 0, .slice none 0 0] 52)).setCell ⟨w.heap.size, 0, none⟩ (.slice none 0 0)).setCell ⟨w.heap.size, 1, none⟩ (.slice none 0 0)) := ((HB1.out.alloc HB1.out.size _).setCell (Nat.le_refl _) _).setCell (Nat.le_refl _) _
  generalize (((w1.alloc (.cells #[.string ⟨#[]⟩, .slice none 0 0, .slice none 0 0] 52)).setCell ⟨w.heap.size, 0, none⟩ (.slice none 0 0)).setCell ⟨w.heap.size, 1, none⟩ (.slice none 0 0)) = WF at KF HBF ⊢
  have kcf := block_cell KF
  clear KF KA k1 f1 k1a f1a
  exact bodyPost_ret (v := .tuple #[.agg #[.slice none 0 0, .slice none 0 0], .int .i64 50]) (by simp [results, Tryz.results14, go_sem, kcf]) rfl ⟨_, by rw [E1.out], by rw [E2.out, E3.out]; exact nil_tabIn _ _, HBF⟩
end Go.Proofs.YtlbjbkhcnafhcaaGreat
namespace Go.Proofs.YtlbjbkhcnafhcaaGreat
open Go.RowKit Go.Sort Go.Shelf Go.Maps

theorem kp_sortWorld {enc : Nat → Value} {w : World} {blk off m : Nat} {dk : Array Nat} {os : Array Obj} : Kp (fun k => k = blk) w (sortWorld enc w blk off m dk os) := by
  refine ⟨rfl, rfl, rfl, ?_, fun k hk hn => ?_⟩
  · unfold sortWorld; rw [size_grow, size_putRow]; exact Nat.le_add_right _ _
  · unfold sortWorld
    rw [heap_grow_old _ _ (by rw [size_putRow]; show k < w.heap.size; omega)]
    show (w.heap.modify blk _)[k]? = _
    rw [Array.getElem?_modify, if_neg (fun e => hn e.symm)]
theorem sort_t {Q : Nat → Prop} {hs : List Value} {ds : List Rw} {B n cap base : Nat} {w : World} (hblk : w.heap[B]? = some (.cells hs.toArray 32 (0, 0))) (hq : ∀ b, Q b → b ≠ B) (hh : HeadsIn Q w hs ds) (hn : hs.length = n) (hsz : n * 24 ≤ 140737488355328) (hcap : n ≤ cap) (hbase : base ≤ B) :
    Calls Tryz.prog 89 #[.slice (some ⟨B, 0, none⟩) n cap, .func (.func 90) #[] #[]] w fun e w' => e = .returned (.tuple #[]) ∧ (∃ hs', SlAt (fun b => b = B) one 1 w' (.slice (some ⟨B, 0, none⟩) n cap) hs' ∧ HeadsIn Q w' hs' (sortR ds)) ∧ Below base w w' ∧ Kp (fun k => k = B) w w' := by
  have hB : B < w.heap.size := lt_of_block hblk
  have eg : ∀ args w, (callFunc 90 args).run Tryz.prog w = .ok (.enter 90 args) w := enters_of Tryz.func90 (by kernel_rfl) rfl
  have h1 : OneCell (encH hs) := fun i => slice_one (heads_get hh i)
  have hcmp : ∀ size, CmpLays1 Tryz.prog 90 #[] (encH hs) (cfR ds) B 0 size w := fun size m os dk _ x y =>
    (compareRows_any (row_sortWorld hq (heads_get hh x)).at (row_sortWorld hq (heads_get hh y)).at).mono fun e w' ⟨he, hg⟩ => ⟨he, grow_of_grew hg⟩
  have hsize : (Array.range n).size = n := Array.size_range
  have hget : ∀ j, j < n → (Array.range n)[j]! = j := fun j hj => by rw [getElem!_pos _ j (by rw [hsize]; exact hj)]; simp
  have hH : Holds (encH hs) w B 0 (Array.range n) := fun j hj => by
    rw [hsize] at hj
    rw [hget j hj, Nat.zero_add]
    refine ⟨?_, by simp [World.frozen?, hblk]⟩
    rw [block_cell hblk]
    unfold encH
    rw [List.getD_eq_getElem?_getD, List.getElem?_toArray, List.getElem?_eq_getElem (by omega)]; rfl
  have hS := Any.slices_SortFunc Tryz.sortL (encH hs) h1 (cfR ds) (swoR ds) 90 #[] B 0 cap (Array.range n) w eg (hcmp _) hH hB (by rw [hsize]; omega)
  rw [hsize] at hS
  refine Calls.mono (show Calls Tryz.prog 89 _ _ _ from hS) ?_
  rintro e w' ⟨he, d', m, os, hp, hso, rfl⟩
  obtain ⟨hs1, _, hp1⟩ := hp
  rw [hsize] at hs1
  have e1 : d'.extract 0 n = d' := by rw [← hs1]; exact Array.extract_size
  have e2 : (Array.range n).extract 0 n = Array.range n := by
    have := Array.extract_size (xs := Array.range n)
    rwa [hsize] at this
  rw [e1, e2] at hp1
  have hds : ((Array.range n).toList.map (datR ds)) = ds := by
    apply List.ext_getElem?
    intro i
    rw [List.getElem?_map, Array.toList_range]
    have hl : ds.length = n := by rw [← hh.1]; exact hn
    by_cases hi : i < n
    · rw [List.getElem?_range hi, List.getElem?_eq_getElem (by omega)]
      simp only [Option.map_some, datR, List.getD_eq_getElem?_getD]
      rw [List.getElem?_eq_getElem (by omega)]; rfl
    · rw [List.getElem?_eq_none (by simp; omega), List.getElem?_eq_none (by omega)]; rfl
  have hperm : (d'.toList.map (datR ds)).Perm ds := by
    have := hp1.map (datR ds)
    rwa [hds] at this
  have hup : upR (d'.toList.map (datR ds)) := by
    unfold upR
    rw [List.pairwise_map, List.pairwise_iff_getElem]
    intro i j hi hj hij
    have hi' : i < d'.size := by simpa using hi
    have hj' : j < d'.size := by simpa using hj
    have := hso i j (Nat.zero_le _) hij (by omega)
    rw [lt_false, getElem!_pos d' j hj', getElem!_pos d' i hi'] at this
    have hneg := neg_cmpR (datR ds d'[i]) (datR ds d'[j])
    show cmpR (datR ds d'.toList[i]) (datR ds d'.toList[j]) ≤ 0
    rw [Array.getElem_toList, Array.getElem_toList]
    omega
  have hsort := sortR_of hup hperm
  refine ⟨he, ⟨d'.toList.map (encH hs), ?_, ?_⟩, below_sortWorld hbase (by omega), kp_sortWorld⟩
  · refine ⟨some ⟨B, 0, none⟩, cap, by simp [hs1], ⟨by simp [hs1]; exact hcap, fun h => by cases h⟩, by simp only [List.length_map, Array.length_toList, hs1]; unfold maxLen; omega, fun _ => ⟨B, 0, rfl, ⟨rfl, by simp only [List.length_map, Array.length_toList, hs1]; exact hsz⟩, fun j x hx i u hu => ?_⟩⟩
    match i, hu with
    | 0, hu =>
      simp [one] at hu
      subst hu
      rw [List.getElem?_map] at hx
      obtain ⟨y, hy, rfl⟩ := Option.map_eq_some_iff.1 hx
      have hj : j < d'.size := by simpa using (List.getElem?_eq_some_iff.1 hy).1
      have hy' : d'[j]! = y := by
        rw [getElem!_pos d' j hj]
        have := (List.getElem?_eq_some_iff.1 hy).2
        rwa [Array.getElem_toList] at this
      have hc := cell?_putRow (encH hs) (Sort.ahead w m) B 0 (Array.range n) d' hH (by rw [hs1, hsize]) j hj
      rw [hy'] at hc
      unfold sortWorld
      rw [cell?_grow _ _ _ (by rw [size_putRow]; exact hB)]
      simpa using hc
    | i + 1, hu => simp [one] at hu
  · rw [← hsort]
    refine ⟨by simp, fun j h r h1 h2 => ?_⟩
    rw [List.getElem?_map] at h1 h2
    obtain ⟨y, hy, rfl⟩ := Option.map_eq_some_iff.1 h1
    obtain ⟨y', hy', rfl⟩ := Option.map_eq_some_iff.1 h2
    rw [hy] at hy'
    injection hy' with hy'
    subst hy'
    exact row_sortWorld hq (heads_get hh y)
end Go.Proofs.YtlbjbkhcnafhcaaGreat
namespace Go.Proofs.YtlbjbkhcnafhcaaGreat
open Go.RowKit Go.Sort Go.Shelf Go.Maps

/- A table whose rows lie in blocks of values that may be written, all of it in blocks of which Q holds. -/
def TabY (Q : Nat → Prop) (w : World) (v : Value) (cs : List Cl) (rs : List Rw) : Prop := ∃ c r, v = .agg #[c, r] ∧ SlAt Q Cl.cells 2 w c cs ∧ ∃ hs, SlAt Q one 1 w r hs ∧ HeadsP Q w hs rs
theorem TabY.tab {Q : Nat → Prop} {w : World} {v : Value} {cs : List Cl} {rs : List Rw} (h : TabY Q w v cs rs) : TabIn Q w v cs rs := let ⟨c, r, h0, h1, hs, h2, h3⟩ := h; ⟨c, r, h0, h1, hs, h2, h3.1, fun j x r h4 h5 => (h3.2 j x r h4 h5).imp fun _ hb => hb.1⟩
theorem TabY.set {Q : Nat → Prop} {w : World} {v : Value} {cs : List Cl} {rs : List Rw} {R i : Nat} {u : Value} (hq : ∀ b, Q b → b ≠ R) (h : TabY Q w v cs rs) : TabY Q (w.setCell ⟨R, i, none⟩ u) v cs rs := let ⟨c, r, h0, h1, hs, h2, h3⟩ := h; ⟨c, r, h0, h1.set hq, hs, h2.set hq, h3.kp (Kp.set (T := fun k => k = R) rfl _) (fun b hb e => hq b hb.1 e)⟩
theorem TabY.imp {Q Q' : Nat → Prop} {w : World} {v : Value} {cs : List Cl} {rs : List Rw} (h : TabY Q w v cs rs) (hq : ∀ b, Q b → Q' b) : TabY Q' w v cs rs := let ⟨c, r, h0, h1, hs, h2, h3⟩ := h; ⟨c, r, h0, h1.imp hq, hs, h2.imp hq, h3.imp fun k _ hk => hq k hk⟩
theorem TabY.on {Q : Nat → Prop} {w w' : World} {v : Value} {cs : List Cl} {rs : List Rw} (h : TabY Q w v cs rs) (hb : Below w.heap.size w w') : TabY Q w' v cs rs := let ⟨c, r, h0, h1, hs, h2, h3⟩ := h; ⟨c, r, h0, h1.on hb, hs, h2.on hb, h3.on hb⟩
set_option maxHeartbeats 1000000 in
theorem inOrder_t {Qc : Nat → Prop} {c rv : Value} {cs : List Cl} {rs : List Rw} {g : Nat} {cb : Array Value} {f : Rw → Rw} {w : World} (hc : SlAt Qc Cl.cells 2 w c cs) (hr : RowsAt w rv rs)
    (eg : ∀ args w, (callFunc g args).run Tryz.prog w = .ok (.enter g args) w)
    (ha : ∀ (W : World) (h : Value) (r : Rw), r ∈ rs → Below w.heap.size w W → RowAt W h r → Calls Tryz.prog g (#[h] ++ cb) W fun e w' => ∃ v', e = .returned v' ∧ RowIn (ty36 (fun b => W.heap.size ≤ b) w') w' v' (f r) ∧ Below W.heap.size W w') :
    Calls Tryz.prog 63 #[c, rv, .func (.func g) #[] cb] w fun e w' => ∃ v, e = .returned v ∧ TabY (fun b => Qc b ∨ w.heap.size ≤ b) w' v cs (sortR (rs.map f)) ∧ Below w.heap.size w w' := by
  obtain ⟨hs, hsl, hh⟩ := hr
  have hbnd := SlAt.bound hsl
  obtain ⟨p, cap, rfl, hcap, hmax, hx⟩ := hsl
  unfold maxLen at hmax
  have HX := hid hx
  have HC := hid hc
  have HH := hid hh
  have HAN := hid ha
  clear hx hc hh ha
  generalize hn : hs.length = n at *
  have HN := hid hn
  clear hn
  have hbnd' : n * 24 ≤ 140737488355328 := hbnd
  clear hbnd
  have hmk := make_rows n hbnd'
  have HCL := hid (SlAt.lt cl_len (by omega) HC.out)
  obtain ⟨pc, capc, rfl, -⟩ := HC.out
  clear HC
  generalize cs.length = nc at *
  have hr0 : (part [] n) = Array.replicate n nilS := by unfold part; simp
  go_enter Tryz.func63, Tryz.ntmps63
  go_wp2
  have K0 := hid (block_on (alloc_block w (.cells #[.slice none 0 0, .slice none 0 0] 44)) ((Below.refl _ _).alloc (Nat.le_refl _) (.cells (Array.replicate n nilS) 32)))
  have K1 : Hid (((w.alloc (.cells #[.slice none 0 0, .slice none 0 0] 44)).alloc (.cells (Array.replicate n nilS) 32)).heap[w.heap.size + 1]? = some (.cells (part [] n) 32 (0, 0))) := by
    rw [hr0]
    have h := alloc_block (w.alloc (.cells #[.slice none 0 0, .slice none 0 0] 44)) (.cells (Array.replicate n nilS) 32)
    rw [World.size_alloc] at h
    exact h
  have HB0 := hid (((Below.refl w.heap.size w).alloc (Nat.le_refl _) (.cells #[.slice none 0 0, .slice none 0 0] 44)).alloc (by simp) (.cells (Array.replicate n nilS) 32))
  go_loopw [15] (fun i wr => ∃ (k : Nat) (hs' : List Value), k ≤ n ∧ i = .int .i64 k ∧ hs'.length = k ∧ Hid (wr.heap[w.heap.size + 1]? = some (.cells (part hs' n) 32 (0, 0))) ∧ Hid (HeadsP (fun b => w.heap.size + 1 < b) wr hs' ((rs.take k).map f)) ∧ Hid (wr.heap[w.heap.size]? = some (.cells #[.slice none 0 0, .slice none 0 0] 44 (0, 0))) ∧ Hid (Below w.heap.size w wr)) (fun i _ => n - (intOf i).toNat)
  case atStart => exact ⟨0, [], by omega, rfl, rfl, K1.out, ⟨by simp, fun j h r h1 _ => by simp at h1⟩, K0.out, HB0.out⟩
  case round =>
    obtain ⟨k, hs', hk, rfl, hl, HK1, HH', HK0, HB⟩ := hrel
    by_cases hlt : k < n
    · have hkh : k < hs.length := by rw [HN.out]; exact hlt
      have hkr : k < rs.length := by rw [← HH.out.1]; exact hkh
      obtain ⟨b, o, rfl, -, hj⟩ := HX.out (by intro e; subst e; simp at hkh)
      have hd := head_cell (fun j x hjx => (hj j x hjx).on HB.out) (get!_some hkh)
      have HRow := hid ((HH.out.2 k _ _ (get!_some hkh) (get!_some hkr)).on HB.out)
      have HM := hid (List.mem_of_getElem? (get!_some hkr))
      generalize hs[k]! = hd0 at hd HRow
      have HT := hid (take_map_snoc (f := f) hkr)
      generalize rs[k]! = r0 at HRow HM HT
      clear hj
      have hlt1 := lt_of_block HK1.out
      go_wp2_with (first | (go_at_fn g; refine (HAN.out wr hd0 r0 HM.out HB.out HRow.out).mono ?_; rintro e w1 ⟨v', rfl, hrow, hb1⟩; have HROW := hid hrow; have HB1 := hid hb1; have K1' := hid (block_on HK1.out hb1); have hc1 : w1.cell? ⟨w.heap.size + 1, k, none⟩ = some nilS := (by rw [block_cell K1'.out]; subst hl; exact part_nil hlt); have hf1 := frozen_no K1'.out; obtain ⟨p', cap', rfl, -⟩ := hrow; clear hb1))
      generalize List.length (f r0) = n0 at *
      go_roundw
      case rel =>
        refine ⟨k + 1, hs' ++ [.slice p' n0 cap'], by omega, by go_num, by simp [hl], ?_, ?_, ?_, ?_⟩
        · show _ = _
          rw [Joins.block_setCell K1'.out, ← part_set (by omega), hl]
        · show HeadsP _ _ _ _
          rw [HT.out]
          exact HeadsP.kp (HeadsP.snoc (HH'.out.on HB1.out) (row_P HROW.out (fun b _ (hb : wr.heap.size ≤ b) => by show w.heap.size + 1 < b; omega))) (Kp.set (T := fun k => k = w.heap.size + 1) rfl _) (fun b hb e => by have h1 : w.heap.size + 1 < b := hb.1; have e' : b = w.heap.size + 1 := e; omega)
        · show _ = _
          rw [Deep.blk_setCell_other _ _ _ _ (by simp)]; exact block_on HK0.out HB1.out
        · exact below_set (below_on HB.out HB1.out) (by omega)
      case measure => simp [intOf]; omega
    · have hks : k = n := by omega
      subst hks
      have hrl : rs.take k = rs := by rw [List.take_of_length_le]; rw [← HH.out.1, HN.out]; exact Nat.le_refl _
      rw [hrl] at HH'
      have K1' := hid HK1.out
      rw [part_all hl] at K1'
      go_wp2_with (first | (go_at_call 89; refine (sort_t (base := w.heap.size + 1) K1'.out (fun b hb => by have h1 : w.heap.size + 1 < b := hb.1; omega) HH'.out hl hbnd' (Nat.le_refl _) (Nat.le_refl _)).mono ?_; rintro e w2 ⟨rfl, ⟨hs2, hsl, hh2⟩, hb2, hkp2⟩; have HSL := hid hsl; have HH2 : Hid (HeadsP (fun b => w.heap.size + 1 < b) w2 hs2 (sortR (rs.map f))) := ⟨hh2.1, fun j x r h1 h2 => (hh2.2 j x r h1 h2).imp fun b hb => ty_kp hb hkp2 (fun e => by have h1 : w.heap.size + 1 < b := hb.1; have e' : b = w.heap.size + 1 := e; omega)⟩; have HB2 := hid hb2; have K2 := hid ((hb2.block w.heap.size (by omega)).trans HK0.out); have kc := block_cell K2.out; have kf := frozen_no K2.out; clear hsl hh2 hb2))
      refine bodyPost_ret (v := .agg #[.slice pc nc capc, .slice (some ⟨w.heap.size + 1, 0, none⟩) k k]) ?hv rfl ⟨_, rfl, ?ht, ?hb⟩
      case hv =>
        have KF := Joins.block_setCell (i := 1) (Joins.block_setCell (i := 0) K2.out (.slice pc nc capc)) (.slice (some ⟨w.heap.size + 1, 0, none⟩) k k)
        generalize ((w2.setCell ⟨w.heap.size, 0, none⟩ (.slice pc nc capc)).setCell ⟨w.heap.size, 1, none⟩ (.slice (some ⟨w.heap.size + 1, 0, none⟩) k k)) = WF at KF ⊢
        have kcf := block_cell KF
        clear KF kc kf
        simp [results, Tryz.results63, go_sem, kcf]
      case hb => exact below_set (below_set (HB.out.trans (HB2.out.mono (by omega))) (Nat.le_refl _)) (Nat.le_refl _)
      case ht =>
        refine ⟨_, _, rfl, ?_, hs2, ?_, ?_⟩
        · exact SlAt.imp (SlAt.set (fun b (hb : Qc b ∧ b < w.heap.size) => by omega) (SlAt.set (fun b (hb : Qc b ∧ b < w.heap.size) => by omega) (SlAt.on HCL.out (HB.out.trans (HB2.out.mono (by omega)))))) (fun _ hb => Or.inl hb.1)
        · exact SlAt.imp (SlAt.set (fun b (hb : b = w.heap.size + 1) => by omega) (SlAt.set (fun b (hb : b = w.heap.size + 1) => by omega) HSL.out)) (fun b (hb : b = w.heap.size + 1) => Or.inr (by omega))
        · exact HeadsP.imp (HeadsP.kp (HeadsP.kp HH2.out (Kp.set (T := fun k => k = w.heap.size) rfl _) (fun b hb e => by have h1 : w.heap.size + 1 < b := hb.1; have e' : b = w.heap.size := e; omega)) (Kp.set (T := fun k => k = w.heap.size) rfl _) (fun b hb e => by have h1 : w.heap.size + 1 < b := hb.1; have e' : b = w.heap.size := e; omega)) (fun b _ (hb : w.heap.size + 1 < b) => Or.inr (by omega))
end Go.Proofs.YtlbjbkhcnafhcaaGreat
