/-
  What table.inOrder returns, whatever function makes the rows anew.
  What table.Canon returns, for every table.
  slices.SortFunc of rows: the block stays one that may be written.
  table.inOrder, its rows' heads told as a block that may be written.
  table.Canon, its rows' heads told as a block that may be written.
-/
import Derived.Test.YtjekpclbedbaoaaKS15
import Derived.Test.YtjekpclbedbaoaaKS24
import Derived.Laws.MakeOwn
import Derived.Deep.RegionHeld
import Derived.Deep.Heap
namespace Go.Proofs.Ytjekpclbedbaoaa.TN
open Go.RowKit Go.Sort Go.Shelf

set_option maxHeartbeats 1000000 in
theorem inOrder_any {Qc : Nat → Prop} {c rv : Value} {cs : List Cl} {rs : List Rw} {g : Nat} {cb : Array Value} {f : Rw → Rw} {w : World} (hc : SlAt Qc Cl.cells 2 w c cs) (hr : RowsAt w rv rs)
    (eg : ∀ args w, (callFunc g args).run Try.prog w = .ok (.enter g args) w)
    (ha : ∀ (W : World) (h : Value) (r : Rw), r ∈ rs → Below w.heap.size w W → RowAt W h r → Calls Try.prog g (#[h] ++ cb) W fun e w' => ∃ v', e = .returned v' ∧ RowIn (fun b => W.heap.size ≤ b) w' v' (f r) ∧ Below W.heap.size W w') :
    Calls Try.prog 68 #[c, rv, .func (.func g) #[] cb] w fun e w' => ∃ v, e = .returned v ∧ TabIn (fun b => Qc b ∨ w.heap.size ≤ b) w' v cs (sortR (rs.map f)) ∧ Below w.heap.size w w' := by
  obtain ⟨hs, hsl, hh⟩ := hr
  have hbnd := SlAt.bound hsl
  obtain ⟨p, cap, rfl, hcap, hmax, hx⟩ := hsl
  unfold maxLen at hmax
  have HX := hid hx
  have HC := hid hc
  have HH := hid hh
  have HAN := hid ha
  clear hx hc hh ha
  generalize hn : hs.length = n at *
  have HN := hid hn
  clear hn
  have hbnd' : n * 24 ≤ 140737488355328 := hbnd
  clear hbnd
  have hmk := make_rows n hbnd'
  have HCL := hid (SlAt.lt cl_len (by omega) HC.out)
  obtain ⟨pc, capc, rfl, -⟩ := HC.out
  clear HC
  generalize cs.length = nc at *
  have hr0 : (part [] n) = Array.replicate n nilS := by unfold part; simp
  go_enter Try.func68, Try.ntmps68
  go_wp2
  have K0 := hid (block_on (alloc_block w (.cells #[.slice none 0 0, .slice none 0 0] 25)) ((Below.refl _ _).alloc (Nat.le_refl _) (.cells (Array.replicate n nilS) 48)))
  have K1 : Hid (((w.alloc (.cells #[.slice none 0 0, .slice none 0 0] 25)).alloc (.cells (Array.replicate n nilS) 48)).heap[w.heap.size + 1]? = some (.cells (part [] n) 48 (0, 0))) := by
    rw [hr0]
    have h := alloc_block (w.alloc (.cells #[.slice none 0 0, .slice none 0 0] 25)) (.cells (Array.replicate n nilS) 48)
    rw [World.size_alloc] at h
    exact h
  have HB0 := hid (((Below.refl w.heap.size w).alloc (Nat.le_refl _) (.cells #[.slice none 0 0, .slice none 0 0] 25)).alloc (by simp) (.cells (Array.replicate n nilS) 48))
  go_loopw [15] (fun i wr => ∃ (k : Nat) (hs' : List Value), k ≤ n ∧ i = .int .i64 k ∧ hs'.length = k ∧ Hid (wr.heap[w.heap.size + 1]? = some (.cells (part hs' n) 48 (0, 0))) ∧ Hid (HeadsIn (fun b => w.heap.size + 1 < b) wr hs' ((rs.take k).map f)) ∧ Hid (wr.heap[w.heap.size]? = some (.cells #[.slice none 0 0, .slice none 0 0] 25 (0, 0))) ∧ Hid (Below w.heap.size w wr)) (fun i _ => n - (intOf i).toNat)
  case atStart => exact ⟨0, [], by omega, rfl, rfl, K1.out, ⟨by simp, fun j h r h1 _ => by simp at h1⟩, K0.out, HB0.out⟩
  case round =>
    obtain ⟨k, hs', hk, rfl, hl, HK1, HH', HK0, HB⟩ := hrel
    by_cases hlt : k < n
    · have hkh : k < hs.length := by rw [HN.out]; exact hlt
      have hkr : k < rs.length := by rw [← HH.out.1]; exact hkh
      obtain ⟨b, o, rfl, -, hj⟩ := HX.out (by intro e; subst e; simp at hkh)
      have hd := head_cell (fun j x hjx => (hj j x hjx).on HB.out) (get!_some hkh)
      have HRow := hid ((HH.out.2 k _ _ (get!_some hkh) (get!_some hkr)).on HB.out)
      have HM := hid (List.mem_of_getElem? (get!_some hkr))
      generalize hs[k]! = hd0 at hd HRow
      have HT := hid (take_map_snoc (f := f) hkr)
      generalize rs[k]! = r0 at HRow HM HT
      clear hj
      have hlt1 := lt_of_block HK1.out
      go_wp2_with (first | (go_at_fn g; refine (HAN.out wr hd0 r0 HM.out HB.out HRow.out).mono ?_; rintro e w1 ⟨v', rfl, hrow, hb1⟩; have HROW := hid hrow; have HB1 := hid hb1; have K1' := hid (block_on HK1.out hb1); have hc1 : w1.cell? ⟨w.heap.size + 1, k, none⟩ = some nilS := (by rw [block_cell K1'.out]; subst hl; exact part_nil hlt); have hf1 := frozen_no K1'.out; obtain ⟨p', cap', rfl, -⟩ := hrow; clear hb1))
      generalize List.length (f r0) = n0 at *
      go_roundw
      case rel =>
        refine ⟨k + 1, hs' ++ [.slice p' n0 cap'], by omega, by go_num, by simp [hl], ?_, ?_, ?_, ?_⟩
        · show _ = _
          rw [Joins.block_setCell K1'.out, ← part_set (by omega), hl]
        · show HeadsIn _ _ _ _
          rw [HT.out]
          exact heads_snoc (HeadsIn.set (fun b (hb : w.heap.size + 1 < b) => by omega) (HH'.out.on HB1.out)) (SlAt.set (fun b (hb : w.heap.size + 1 < b) => by omega) (RowIn.imp HROW.out (fun b (hb : wr.heap.size ≤ b) => by omega)))
        · show _ = _
          rw [Deep.blk_setCell_other _ _ _ _ (by simp)]; exact block_on HK0.out HB1.out
        · exact below_set (below_on HB.out HB1.out) (by omega)
      case measure => simp [intOf]; omega
    · have hks : k = n := by omega
      subst hks
      have hrl : rs.take k = rs := by rw [List.take_of_length_le]; rw [← HH.out.1, HN.out]; exact Nat.le_refl _
      rw [hrl] at HH'
      have K1' := hid HK1.out
      rw [part_all hl] at K1'
      go_wp2_with (first | (go_at_call 90; refine (sort_any (base := w.heap.size + 1) K1'.out (fun b (hb : w.heap.size + 1 < b) => by omega) HH'.out hl hbnd' (Nat.le_refl _) (Nat.le_refl _)).mono ?_; rintro e w2 ⟨rfl, ⟨hs2, hsl, hh2⟩, hb2⟩; have HSL := hid hsl; have HH2 := hid hh2; have HB2 := hid hb2; have K2 := hid ((hb2.block w.heap.size (by omega)).trans HK0.out); have kc := block_cell K2.out; have kf := frozen_no K2.out; clear hsl hh2 hb2))
      refine bodyPost_ret (v := .agg #[.slice pc nc capc, .slice (some ⟨w.heap.size + 1, 0, none⟩) k k]) ?hv rfl ⟨_, rfl, ?ht, ?hb⟩
      case hv =>
        have KF := Joins.block_setCell (i := 1) (Joins.block_setCell (i := 0) K2.out (.slice pc nc capc)) (.slice (some ⟨w.heap.size + 1, 0, none⟩) k k)
        generalize ((w2.setCell ⟨w.heap.size, 0, none⟩ (.slice pc nc capc)).setCell ⟨w.heap.size, 1, none⟩ (.slice (some ⟨w.heap.size + 1, 0, none⟩) k k)) = WF at KF ⊢
        have kcf := block_cell KF
        clear KF kc kf
        simp [results, Try.results68, go_sem, kcf]
      case hb => exact below_set (below_set (HB.out.trans (HB2.out.mono (by omega))) (Nat.le_refl _)) (Nat.le_refl _)
      case ht =>
        refine ⟨_, _, rfl, ?_, hs2, ?_, ?_⟩
        · exact SlAt.imp (SlAt.set (fun b (hb : Qc b ∧ b < w.heap.size) => by omega) (SlAt.set (fun b (hb : Qc b ∧ b < w.heap.size) => by omega) (SlAt.on HCL.out (HB.out.trans (HB2.out.mono (by omega)))))) (fun _ hb => Or.inl hb.1)
        · exact SlAt.imp (SlAt.set (fun b (hb : b = w.heap.size + 1) => by omega) (SlAt.set (fun b (hb : b = w.heap.size + 1) => by omega) HSL.out)) (fun b (hb : b = w.heap.size + 1) => Or.inr (by omega))
        · exact HeadsIn.imp (HeadsIn.set (fun b (hb : w.heap.size + 1 < b) => by omega) (HeadsIn.set (fun b (hb : w.heap.size + 1 < b) => by omega) HH2.out)) (fun b (hb : w.heap.size + 1 < b) => Or.inr (by omega))
end Go.Proofs.Ytjekpclbedbaoaa.TN
namespace Go.Proofs.Ytjekpclbedbaoaa.TN
open Go.RowKit Go.Sort Go.Shelf

theorem alloc_blk2 (w : World) (x y : Obj) : ((w.alloc x).alloc y).heap[w.heap.size + 1]? = some y := by
  have h := alloc_block (w.alloc x) y
  rwa [World.size_alloc] at h
set_option maxHeartbeats 1000000 in
theorem canon_any {v : Value} {cs : List Cl} {rs : List Rw} {w : World} (hv : TabAt w v cs rs) :
    Calls Try.prog 43 #[v] w fun e w' => ∃ v', e = .returned v' ∧ TabIn (fun b => w.heap.size ≤ b) w' v' cs (sortR rs) ∧ Below w.heap.size w w' := by
  obtain ⟨c, rv, rfl, hc, hr⟩ := hv
  have eg : ∀ args w, (callFunc 33 args).run Try.prog w = .ok (.enter 33 args) w := enters_of Try.func33 (by kernel_rfl) rfl
  have HC := hid hc
  have HR := hid hr
  obtain ⟨pc, capc, rfl, -⟩ := hc
  obtain ⟨hs, ⟨pr, capr, rfl, -⟩, -⟩ := hr
  generalize cs.length = nc at *
  generalize hs.length = nr at *
  have HA : Hid (∀ (W0 W : World) (h : Value) (r : Rw), r ∈ rs → Below W0.heap.size W0 W → RowAt W h r → Calls Try.prog 33 (#[h] ++ #[]) W fun e w' => ∃ v', e = .returned v' ∧ RowIn (fun b => W.heap.size ≤ b) w' v' (id r) ∧ Below W.heap.size W w') :=
    fun W0 W h r _ _ hr => cloneV_any hr
  go_enter Try.func43, Try.ntmps43
  go_wp2_with fail
  have K0 := hid (block_on (alloc_block w (.cells #[.slice pc nc capc, .slice pr nr capr] 25)) ((Below.refl _ _).alloc (Nat.le_refl _) (.cells #[.slice none 0 0, .slice none 0 0] 25)))
  have K1 := hid (alloc_blk2 w (.cells #[.slice pc nc capc, .slice pr nr capr] 25) (.cells #[.slice none 0 0, .slice none 0 0] 25))
  have HB := hid (((Below.refl w.heap.size w).alloc (Nat.le_refl _) (.cells #[.slice pc nc capc, .slice pr nr capr] 25)).alloc (by simp) (.cells #[.slice none 0 0, .slice none 0 0] 25))
  generalize ((w.alloc (.cells #[.slice pc nc capc, .slice pr nr capr] 25)).alloc (.cells #[.slice none 0 0, .slice none 0 0] 25)) = W at *
  have k0 := block_cell K0.out
  have k1 := block_cell K1.out
  have f1 := frozen_no K1.out
  go_region_with (first | (go_at_call 34; refine (cloneC_any (HC.out.on (by first | exact HB.out | exact HB.out.drew))).mono ?_; rintro e w1 ⟨v1, rfl, hc1, hb1⟩; have HC1 := hid hc1; have HB1 : Hid (Below W.heap.size W w1) := (by first | exact hb1 | exact (Below.refl _ _).drew.trans hb1); have K01 := hid (block_on K0.out HB1.out); have K11 := hid (block_on K1.out HB1.out); have k01 := block_cell K01.out; clear hc1 hb1) | (go_at_call 68; refine (inOrder_any HC1.out (HR.out.on (below_on HB.out HB1.out)) eg (HA.out _)).mono ?_; rintro e w2 ⟨v2, rfl, ht2, hb2⟩; have HT2 := hid ht2; have HB2 := hid hb2; have K12 := hid (block_on K11.out HB2.out); have k12 := block_cell K12.out; have f12 := frozen_no K12.out; obtain ⟨c2, r2, rfl, ⟨pc2, capc2, rfl, -⟩, hs2, ⟨pr2, capr2, rfl, -⟩, -⟩ := ht2; clear hb2))
  all_goals
    have l1 := lt_of_block K1.out
    have l2 := HB1.out.size
    clear k0 k1 f1 k01 k12 f12
    go_wp2
    refine bodyPost_ret (v := .agg #[.slice pc2 cs.length capc2, .slice pr2 hs2.length capr2]) ?hv rfl ⟨_, rfl, ?ht, ?hb⟩
    case hv =>
      have KF := Joins.block_setCell (i := 1) (Joins.block_setCell (i := 0) K12.out (.slice pc2 cs.length capc2)) (.slice pr2 hs2.length capr2)
      generalize ((w2.setCell ⟨w.heap.size + 1, 0, none⟩ (.slice pc2 cs.length capc2)).setCell ⟨w.heap.size + 1, 1, none⟩ (.slice pr2 hs2.length capr2)) = WF at KF ⊢
      have kcf := block_cell KF
      clear KF
      simp [results, Try.results43, go_sem, kcf]
    case hb => exact below_set (below_set (below_on (below_on HB.out HB1.out) HB2.out) (by omega)) (by omega)
    case ht =>
      rw [List.map_id] at HT2
      exact (TabIn.set (fun b hb => by rcases hb with hb | hb <;> (have : W.heap.size ≤ b := (by first | exact hb | exact Nat.le_trans l2 hb); omega)) (TabIn.set (fun b hb => by rcases hb with hb | hb <;> (have : W.heap.size ≤ b := (by first | exact hb | exact Nat.le_trans l2 hb); omega)) HT2.out)).imp (fun b hb => by rcases hb with hb | hb <;> (have : W.heap.size ≤ b := (by first | exact hb | exact Nat.le_trans l2 hb); omega))
end Go.Proofs.Ytjekpclbedbaoaa.TN
namespace Go.Proofs.Ytjekpclbedbaoaa.TN
open Go.RowKit Go.Sort Go.Shelf

theorem blk_sortWorld {enc : Nat → Value} {w : World} {blk m : Nat} {dk : Array Nat} {os : Array Obj} {A : Array Value} {t : TypeId} (h : w.heap[blk]? = some (.cells A t (0, 0))) (hs : A.size = dk.size) : (sortWorld enc w blk 0 m dk os).heap[blk]? = some (.cells (dk.toList.map enc).toArray t (0, 0)) := by
  unfold sortWorld
  rw [heap_grow_old _ _ (by rw [size_putRow]; exact lt_of_block h)]
  have h1 : (putRow enc (Sort.ahead w m) blk 0 dk).heap[blk]? = some (.cells (putCells enc 0 dk A) t (0, 0)) := by
    show (w.heap.modify blk _)[blk]? = _
    rw [Array.getElem?_modify, if_pos rfl, h]; rfl
  rw [h1]
  congr 2
  apply Array.ext_getElem?
  intro i
  simp only [putCells, Array.getElem?_mapIdx]
  by_cases hi : i < dk.size
  · rw [Array.getElem?_eq_getElem (by omega), Option.map_some, if_pos (by omega), List.getElem?_toArray, List.getElem?_map, Array.getElem?_toList, Array.getElem?_eq_getElem hi, Nat.sub_zero, getElem!_pos dk i hi]; rfl
  · rw [Array.getElem?_eq_none (by omega), Array.getElem?_eq_none (by simp; omega)]; rfl
theorem sort_w {Q : Nat → Prop} {hs : List Value} {ds : List Rw} {B n cap base : Nat} {w : World} (hblk : w.heap[B]? = some (.cells hs.toArray 48 (0, 0))) (hq : ∀ b, Q b → b ≠ B) (hh : HeadsIn Q w hs ds) (hn : hs.length = n) (hsz : n * 24 ≤ 140737488355328) (hcap : n ≤ cap) (hbase : base ≤ B) :
    Calls Try.prog 90 #[.slice (some ⟨B, 0, none⟩) n cap, .func (.func 91) #[] #[]] w fun e w' => e = .returned (.tuple #[]) ∧ (∃ hs', SlAt (fun b => b = B) one 1 w' (.slice (some ⟨B, 0, none⟩) n cap) hs' ∧ w'.heap[B]? = some (.cells hs'.toArray 48 (0, 0)) ∧ HeadsIn Q w' hs' (sortR ds)) ∧ Below base w w' := by
  have hB : B < w.heap.size := lt_of_block hblk
  have eg : ∀ args w, (callFunc 91 args).run Try.prog w = .ok (.enter 91 args) w := enters_of Try.func91 (by kernel_rfl) rfl
  have h1 : OneCell (encH hs) := fun i => slice_one (heads_get hh i)
  have hcmp : ∀ size, CmpLays1 Try.prog 91 #[] (encH hs) (cfR ds) B 0 size w := fun size m os dk _ x y =>
    (compareRows_any (row_sortWorld hq (heads_get hh x)).at (row_sortWorld hq (heads_get hh y)).at).mono fun e w' ⟨he, hg⟩ => ⟨he, grow_of_grew hg⟩
  have hsize : (Array.range n).size = n := Array.size_range
  have hget : ∀ j, j < n → (Array.range n)[j]! = j := fun j hj => by rw [getElem!_pos _ j (by rw [hsize]; exact hj)]; simp
  have hH : Holds (encH hs) w B 0 (Array.range n) := fun j hj => by
    rw [hsize] at hj
    rw [hget j hj, Nat.zero_add]
    refine ⟨?_, by simp [World.frozen?, hblk]⟩
    rw [block_cell hblk]
    unfold encH
    rw [List.getD_eq_getElem?_getD, List.getElem?_toArray, List.getElem?_eq_getElem (by omega)]; rfl
  have hS := Any.slices_SortFunc Try.sortL (encH hs) h1 (cfR ds) (swoR ds) 91 #[] B 0 cap (Array.range n) w eg (hcmp _) hH hB (by rw [hsize]; omega)
  rw [hsize] at hS
  refine Calls.mono (show Calls Try.prog 90 _ _ _ from hS) ?_
  rintro e w' ⟨he, d', m, os, hp, hso, rfl⟩
  obtain ⟨hs1, _, hp1⟩ := hp
  rw [hsize] at hs1
  have e1 : d'.extract 0 n = d' := by rw [← hs1]; exact Array.extract_size
  have e2 : (Array.range n).extract 0 n = Array.range n := by
    have := Array.extract_size (xs := Array.range n)
    rwa [hsize] at this
  rw [e1, e2] at hp1
  have hds : ((Array.range n).toList.map (datR ds)) = ds := by
    apply List.ext_getElem?
    intro i
    rw [List.getElem?_map, Array.toList_range]
    have hl : ds.length = n := by rw [← hh.1]; exact hn
    by_cases hi : i < n
    · rw [List.getElem?_range hi, List.getElem?_eq_getElem (by omega)]
      simp only [Option.map_some, datR, List.getD_eq_getElem?_getD]
      rw [List.getElem?_eq_getElem (by omega)]; rfl
    · rw [List.getElem?_eq_none (by simp; omega), List.getElem?_eq_none (by omega)]; rfl
  have hperm : (d'.toList.map (datR ds)).Perm ds := by
    have := hp1.map (datR ds)
    rwa [hds] at this
  have hup : upR (d'.toList.map (datR ds)) := by
    unfold upR
    rw [List.pairwise_map, List.pairwise_iff_getElem]
    intro i j hi hj hij
    have hi' : i < d'.size := by simpa using hi
    have hj' : j < d'.size := by simpa using hj
    have := hso i j (Nat.zero_le _) hij (by omega)
    rw [lt_false, getElem!_pos d' j hj', getElem!_pos d' i hi'] at this
    have hneg := neg_cmpR (datR ds d'[i]) (datR ds d'[j])
    show cmpR (datR ds d'.toList[i]) (datR ds d'.toList[j]) ≤ 0
    rw [Array.getElem_toList, Array.getElem_toList]
    omega
  have hsort := sortR_of hup hperm
  refine ⟨he, ⟨d'.toList.map (encH hs), ?_, blk_sortWorld hblk (by rw [hs1]; simpa using hn), ?_⟩, below_sortWorld hbase (by omega)⟩
  · refine ⟨some ⟨B, 0, none⟩, cap, by simp [hs1], ⟨by simp [hs1]; exact hcap, fun h => by cases h⟩, by simp only [List.length_map, Array.length_toList, hs1]; unfold maxLen; omega, fun _ => ⟨B, 0, rfl, ⟨rfl, by simp only [List.length_map, Array.length_toList, hs1]; exact hsz⟩, fun j x hx i u hu => ?_⟩⟩
    match i, hu with
    | 0, hu =>
      simp [one] at hu
      subst hu
      rw [List.getElem?_map] at hx
      obtain ⟨y, hy, rfl⟩ := Option.map_eq_some_iff.1 hx
      have hj : j < d'.size := by simpa using (List.getElem?_eq_some_iff.1 hy).1
      have hy' : d'[j]! = y := by
        rw [getElem!_pos d' j hj]
        have := (List.getElem?_eq_some_iff.1 hy).2
        rwa [Array.getElem_toList] at this
      have hc := cell?_putRow (encH hs) (Sort.ahead w m) B 0 (Array.range n) d' hH (by rw [hs1, hsize]) j hj
      rw [hy'] at hc
      unfold sortWorld
      rw [cell?_grow _ _ _ (by rw [size_putRow]; exact hB)]
      simpa using hc
    | i + 1, hu => simp [one] at hu
  · rw [← hsort]
    refine ⟨by simp, fun j h r h1 h2 => ?_⟩
    rw [List.getElem?_map] at h1 h2
    obtain ⟨y, hy, rfl⟩ := Option.map_eq_some_iff.1 h1
    obtain ⟨y', hy', rfl⟩ := Option.map_eq_some_iff.1 h2
    rw [hy] at hy'
    injection hy' with hy'
    subst hy'
    exact row_sortWorld hq (heads_get hh y)
end Go.Proofs.Ytjekpclbedbaoaa.TN
namespace Go.Proofs.Ytjekpclbedbaoaa.TN
open Go.RowKit Go.Sort Go.Shelf

/- A table whose rows' heads lie in a block that may be written, all of it in blocks from B0 on; the columns in blocks of which Qc holds. -/
def TabW (Qc : Nat → Prop) (B0 : Nat) (w : World) (v : Value) (cs : List Cl) (rs : List Rw) : Prop := ∃ c B hs, v = .agg #[c, .slice (some ⟨B, 0, none⟩) (rs.length : Nat) (rs.length : Nat)] ∧ SlAt (fun b => Qc b ∧ b < B) Cl.cells 2 w c cs ∧ B0 ≤ B ∧ rs.length * 24 ≤ 140737488355328 ∧ w.heap[B]? = some (.cells hs.toArray 48 (0, 0)) ∧ HeadsIn (fun b => B < b) w hs rs
theorem TabW.imp {Q Q' : Nat → Prop} {B0 B1 : Nat} {w : World} {v : Value} {cs : List Cl} {rs : List Rw} (h : TabW Q B0 w v cs rs) (hq : ∀ b, Q b → Q' b) (hb : B1 ≤ B0) : TabW Q' B1 w v cs rs := let ⟨c, B, hs, h0, h1, h2, h3, h4, h5⟩ := h; ⟨c, B, hs, h0, h1.imp (fun b hb => ⟨hq b hb.1, hb.2⟩), Nat.le_trans hb h2, h3, h4, h5⟩
theorem blk_set_ne {w : World} {B R i : Nat} {o : Obj} {u : Value} (h : w.heap[B]? = some o) (hne : B ≠ R) : (w.setCell ⟨R, i, none⟩ u).heap[B]? = some o := by rw [Deep.blk_setCell_other _ _ _ _ hne]; exact h
theorem TabW.set {Q : Nat → Prop} {B0 : Nat} {w : World} {v : Value} {cs : List Cl} {rs : List Rw} {R i : Nat} {u : Value} (hq : ∀ b, Q b → b ≠ R) (hR : R < B0) (h : TabW Q B0 w v cs rs) : TabW Q B0 (w.setCell ⟨R, i, none⟩ u) v cs rs := let ⟨c, B, hs, h0, h1, h2, h3, h4, h5⟩ := h; ⟨c, B, hs, h0, h1.set (fun b hb => hq b hb.1), h2, h3, blk_set_ne h4 (by omega), h5.set (fun b hb => by omega)⟩
theorem TabW.form {Q : Nat → Prop} {B0 : Nat} {w : World} {v : Value} {cs : List Cl} {rs : List Rw} (h : TabW Q B0 w v cs rs) : ∃ pc cc B, v = .agg #[.slice pc cs.length cc, .slice (some ⟨B, 0, none⟩) rs.length rs.length] := by
  obtain ⟨c, B, hs, rfl, ⟨pc, cc, rfl, -⟩, -⟩ := h
  exact ⟨pc, cc, B, rfl⟩
theorem one_sl {w : World} {B : Nat} {hs : List Value} {n : Nat} (h : w.heap[B]? = some (.cells hs.toArray 48 (0, 0))) (hn : hs.length = n) (hb : n * 24 ≤ 140737488355328) : SlAt (fun b => b = B) one 1 w (.slice (some ⟨B, 0, none⟩) n n) hs := by
  subst hn
  refine ⟨some ⟨B, 0, none⟩, hs.length, rfl, ⟨Nat.le_refl _, fun e => by cases e⟩, by unfold maxLen; omega, fun _ => ⟨B, 0, rfl, ⟨rfl, by unfold bsz; rw [if_neg (by decide)]; exact hb⟩, fun j x hj i u hu => ?_⟩⟩
  match i, hu with
  | 0, hu =>
    simp [one] at hu
    subst hu
    rw [block_cell h]
    simpa using hj
  | i + 1, hu => simp [one] at hu
theorem TabW.tab {Q : Nat → Prop} {B0 : Nat} {w : World} {v : Value} {cs : List Cl} {rs : List Rw} (h : TabW Q B0 w v cs rs) : TabIn (fun b => Q b ∨ B0 ≤ b) w v cs rs := by
  obtain ⟨c, B, hs, rfl, h1, h2, h3, h4, h5⟩ := h
  exact ⟨_, _, rfl, h1.imp (fun _ hb => Or.inl hb.1), hs, (one_sl h4 h5.1 h3).imp (fun b e => Or.inr (by omega)), h5.imp (fun b hb => Or.inr (by omega))⟩
set_option maxHeartbeats 1000000 in
theorem inOrder_w {Qc : Nat → Prop} {c rv : Value} {cs : List Cl} {rs : List Rw} {g : Nat} {cb : Array Value} {f : Rw → Rw} {w : World} (hc : SlAt Qc Cl.cells 2 w c cs) (hr : RowsAt w rv rs)
    (eg : ∀ args w, (callFunc g args).run Try.prog w = .ok (.enter g args) w)
    (ha : ∀ (W : World) (h : Value) (r : Rw), r ∈ rs → Below w.heap.size w W → RowAt W h r → Calls Try.prog g (#[h] ++ cb) W fun e w' => ∃ v', e = .returned v' ∧ RowIn (fun b => W.heap.size ≤ b) w' v' (f r) ∧ Below W.heap.size W w') :
    Calls Try.prog 68 #[c, rv, .func (.func g) #[] cb] w fun e w' => ∃ v, e = .returned v ∧ TabW (fun b => Qc b ∧ b < w.heap.size) (w.heap.size + 1) w' v cs (sortR (rs.map f)) ∧ Below w.heap.size w w' := by
  obtain ⟨hs, hsl, hh⟩ := hr
  have hbnd := SlAt.bound hsl
  obtain ⟨p, cap, rfl, hcap, hmax, hx⟩ := hsl
  unfold maxLen at hmax
  have HX := hid hx
  have HC := hid hc
  have HH := hid hh
  have HAN := hid ha
  clear hx hc hh ha
  generalize hn : hs.length = n at *
  have HN := hid hn
  clear hn
  have hbnd' : n * 24 ≤ 140737488355328 := hbnd
  clear hbnd
  have hmk := make_rows n hbnd'
  have HCL := hid (SlAt.lt cl_len (by omega) HC.out)
  obtain ⟨pc, capc, rfl, -⟩ := HC.out
  clear HC
  generalize cs.length = nc at *
  have hr0 : (part [] n) = Array.replicate n nilS := by unfold part; simp
  go_enter Try.func68, Try.ntmps68
  go_wp2
  have K0 := hid (block_on (alloc_block w (.cells #[.slice none 0 0, .slice none 0 0] 25)) ((Below.refl _ _).alloc (Nat.le_refl _) (.cells (Array.replicate n nilS) 48)))
  have K1 : Hid (((w.alloc (.cells #[.slice none 0 0, .slice none 0 0] 25)).alloc (.cells (Array.replicate n nilS) 48)).heap[w.heap.size + 1]? = some (.cells (part [] n) 48 (0, 0))) := by
    rw [hr0]
    have h := alloc_block (w.alloc (.cells #[.slice none 0 0, .slice none 0 0] 25)) (.cells (Array.replicate n nilS) 48)
    rw [World.size_alloc] at h
    exact h
  have HB0 := hid (((Below.refl w.heap.size w).alloc (Nat.le_refl _) (.cells #[.slice none 0 0, .slice none 0 0] 25)).alloc (by simp) (.cells (Array.replicate n nilS) 48))
  go_loopw [15] (fun i wr => ∃ (k : Nat) (hs' : List Value), k ≤ n ∧ i = .int .i64 k ∧ hs'.length = k ∧ Hid (wr.heap[w.heap.size + 1]? = some (.cells (part hs' n) 48 (0, 0))) ∧ Hid (HeadsIn (fun b => w.heap.size + 1 < b) wr hs' ((rs.take k).map f)) ∧ Hid (wr.heap[w.heap.size]? = some (.cells #[.slice none 0 0, .slice none 0 0] 25 (0, 0))) ∧ Hid (Below w.heap.size w wr)) (fun i _ => n - (intOf i).toNat)
  case atStart => exact ⟨0, [], by omega, rfl, rfl, K1.out, ⟨by simp, fun j h r h1 _ => by simp at h1⟩, K0.out, HB0.out⟩
  case round =>
    obtain ⟨k, hs', hk, rfl, hl, HK1, HH', HK0, HB⟩ := hrel
    by_cases hlt : k < n
    · have hkh : k < hs.length := by rw [HN.out]; exact hlt
      have hkr : k < rs.length := by rw [← HH.out.1]; exact hkh
      obtain ⟨b, o, rfl, -, hj⟩ := HX.out (by intro e; subst e; simp at hkh)
      have hd := head_cell (fun j x hjx => (hj j x hjx).on HB.out) (get!_some hkh)
      have HRow := hid ((HH.out.2 k _ _ (get!_some hkh) (get!_some hkr)).on HB.out)
      have HM := hid (List.mem_of_getElem? (get!_some hkr))
      generalize hs[k]! = hd0 at hd HRow
      have HT := hid (take_map_snoc (f := f) hkr)
      generalize rs[k]! = r0 at HRow HM HT
      clear hj
      have hlt1 := lt_of_block HK1.out
      go_wp2_with (first | (go_at_fn g; refine (HAN.out wr hd0 r0 HM.out HB.out HRow.out).mono ?_; rintro e w1 ⟨v', rfl, hrow, hb1⟩; have HROW := hid hrow; have HB1 := hid hb1; have K1' := hid (block_on HK1.out hb1); have hc1 : w1.cell? ⟨w.heap.size + 1, k, none⟩ = some nilS := (by rw [block_cell K1'.out]; subst hl; exact part_nil hlt); have hf1 := frozen_no K1'.out; obtain ⟨p', cap', rfl, -⟩ := hrow; clear hb1))
      generalize List.length (f r0) = n0 at *
      go_roundw
      case rel =>
        refine ⟨k + 1, hs' ++ [.slice p' n0 cap'], by omega, by go_num, by simp [hl], ?_, ?_, ?_, ?_⟩
        · show _ = _
          rw [Joins.block_setCell K1'.out, ← part_set (by omega), hl]
        · show HeadsIn _ _ _ _
          rw [HT.out]
          exact heads_snoc (HeadsIn.set (fun b (hb : w.heap.size + 1 < b) => by omega) (HH'.out.on HB1.out)) (SlAt.set (fun b (hb : w.heap.size + 1 < b) => by omega) (RowIn.imp HROW.out (fun b (hb : wr.heap.size ≤ b) => by omega)))
        · show _ = _
          rw [Deep.blk_setCell_other _ _ _ _ (by simp)]; exact block_on HK0.out HB1.out
        · exact below_set (below_on HB.out HB1.out) (by omega)
      case measure => simp [intOf]; omega
    · have hks : k = n := by omega
      subst hks
      have hrl : rs.take k = rs := by rw [List.take_of_length_le]; rw [← HH.out.1, HN.out]; exact Nat.le_refl _
      rw [hrl] at HH'
      have K1' := hid HK1.out
      rw [part_all hl] at K1'
      go_wp2_with (first | (go_at_call 90; refine (sort_w (base := w.heap.size + 1) K1'.out (fun b (hb : w.heap.size + 1 < b) => by omega) HH'.out hl hbnd' (Nat.le_refl _) (Nat.le_refl _)).mono ?_; rintro e w2 ⟨rfl, ⟨hs2, hsl, hbk2, hh2⟩, hb2⟩; have HSL := hid hbk2; have HH2 := hid hh2; have HB2 := hid hb2; have K2 := hid ((hb2.block w.heap.size (by omega)).trans HK0.out); have kc := block_cell K2.out; have kf := frozen_no K2.out; clear hsl hbk2 hh2 hb2))
      refine bodyPost_ret (v := .agg #[.slice pc nc capc, .slice (some ⟨w.heap.size + 1, 0, none⟩) k k]) ?hv rfl ⟨_, rfl, ?ht, ?hb⟩
      case hv =>
        have KF := Joins.block_setCell (i := 1) (Joins.block_setCell (i := 0) K2.out (.slice pc nc capc)) (.slice (some ⟨w.heap.size + 1, 0, none⟩) k k)
        generalize ((w2.setCell ⟨w.heap.size, 0, none⟩ (.slice pc nc capc)).setCell ⟨w.heap.size, 1, none⟩ (.slice (some ⟨w.heap.size + 1, 0, none⟩) k k)) = WF at KF ⊢
        have kcf := block_cell KF
        clear KF kc kf
        simp [results, Try.results68, go_sem, kcf]
      case hb => exact below_set (below_set (HB.out.trans (HB2.out.mono (by omega))) (Nat.le_refl _)) (Nat.le_refl _)
      case ht =>
        have hlen : (sortR (rs.map f)).length = k := by rw [sortR_length, List.length_map, ← HH.out.1]; exact HN.out
        refine ⟨_, w.heap.size + 1, hs2, by rw [hlen], ?_, Nat.le_refl _, by rw [hlen]; exact hbnd', blk_set_ne (blk_set_ne HSL.out (by omega)) (by omega), ?_⟩
        · exact SlAt.imp (SlAt.set (fun b (hb : Qc b ∧ b < w.heap.size) => by omega) (SlAt.set (fun b (hb : Qc b ∧ b < w.heap.size) => by omega) (SlAt.on HCL.out (HB.out.trans (HB2.out.mono (by omega)))))) (fun b (hb : Qc b ∧ b < w.heap.size) => ⟨hb, by omega⟩)
        · exact HeadsIn.set (fun b (hb : w.heap.size + 1 < b) => by omega) (HeadsIn.set (fun b (hb : w.heap.size + 1 < b) => by omega) HH2.out)
end Go.Proofs.Ytjekpclbedbaoaa.TN
namespace Go.Proofs.Ytjekpclbedbaoaa.TN
open Go.RowKit Go.Sort Go.Shelf

set_option maxHeartbeats 1000000 in
theorem canon_w {v : Value} {cs : List Cl} {rs : List Rw} {w : World} (hv : TabAt w v cs rs) :
    Calls Try.prog 43 #[v] w fun e w' => ∃ v', e = .returned v' ∧ TabW (fun b => w.heap.size ≤ b) w.heap.size w' v' cs (sortR rs) ∧ Below w.heap.size w w' := by
  obtain ⟨c, rv, rfl, hc, hr⟩ := hv
  have eg : ∀ args w, (callFunc 33 args).run Try.prog w = .ok (.enter 33 args) w := enters_of Try.func33 (by kernel_rfl) rfl
  have HC := hid hc
  have HR := hid hr
  obtain ⟨pc, capc, rfl, -⟩ := hc
  obtain ⟨hs, ⟨pr, capr, rfl, -⟩, -⟩ := hr
  generalize cs.length = nc at *
  generalize hs.length = nr at *
  have HA : Hid (∀ (W0 W : World) (h : Value) (r : Rw), r ∈ rs → Below W0.heap.size W0 W → RowAt W h r → Calls Try.prog 33 (#[h] ++ #[]) W fun e w' => ∃ v', e = .returned v' ∧ RowIn (fun b => W.heap.size ≤ b) w' v' (id r) ∧ Below W.heap.size W w') :=
    fun W0 W h r _ _ hr => cloneV_any hr
  go_enter Try.func43, Try.ntmps43
  go_wp2_with fail
  have K0 := hid (block_on (alloc_block w (.cells #[.slice pc nc capc, .slice pr nr capr] 25)) ((Below.refl _ _).alloc (Nat.le_refl _) (.cells #[.slice none 0 0, .slice none 0 0] 25)))
  have K1 := hid (alloc_blk2 w (.cells #[.slice pc nc capc, .slice pr nr capr] 25) (.cells #[.slice none 0 0, .slice none 0 0] 25))
  have HB := hid (((Below.refl w.heap.size w).alloc (Nat.le_refl _) (.cells #[.slice pc nc capc, .slice pr nr capr] 25)).alloc (by simp) (.cells #[.slice none 0 0, .slice none 0 0] 25))
  generalize ((w.alloc (.cells #[.slice pc nc capc, .slice pr nr capr] 25)).alloc (.cells #[.slice none 0 0, .slice none 0 0] 25)) = W at *
  have k0 := block_cell K0.out
  have k1 := block_cell K1.out
  have f1 := frozen_no K1.out
  go_region_with (first | (go_at_call 34; refine (cloneC_any (HC.out.on (by first | exact HB.out | exact HB.out.drew))).mono ?_; rintro e w1 ⟨v1, rfl, hc1, hb1⟩; have HC1 := hid hc1; have HB1 : Hid (Below W.heap.size W w1) := (by first | exact hb1 | exact (Below.refl _ _).drew.trans hb1); have K01 := hid (block_on K0.out HB1.out); have K11 := hid (block_on K1.out HB1.out); have k01 := block_cell K01.out; clear hc1 hb1) | (go_at_call 68; refine (inOrder_w HC1.out (HR.out.on (below_on HB.out HB1.out)) eg (HA.out _)).mono ?_; rintro e w2 ⟨v2, rfl, ht2, hb2⟩; rw [List.map_id] at ht2; have HT2 := hid ht2; have HB2 := hid hb2; have K12 := hid (block_on K11.out HB2.out); have k12 := block_cell K12.out; have f12 := frozen_no K12.out; obtain ⟨pc2, capc2, br2, rfl⟩ := ht2.form; clear hb2))
  all_goals
    have l1 := lt_of_block K1.out
    have l2 := HB1.out.size
    clear k0 k1 f1 k01 k12 f12
    go_wp2
    refine bodyPost_ret (v := .agg #[.slice pc2 cs.length capc2, .slice (some ⟨br2, 0, none⟩) (sortR rs).length (sortR rs).length]) ?hv rfl ⟨_, rfl, ?ht, ?hb⟩
    case hv =>
      have KF := Joins.block_setCell (i := 1) (Joins.block_setCell (i := 0) K12.out (.slice pc2 cs.length capc2)) (.slice (some ⟨br2, 0, none⟩) (sortR rs).length (sortR rs).length)
      generalize ((w2.setCell ⟨w.heap.size + 1, 0, none⟩ (.slice pc2 cs.length capc2)).setCell ⟨w.heap.size + 1, 1, none⟩ (.slice (some ⟨br2, 0, none⟩) (sortR rs).length (sortR rs).length)) = WF at KF ⊢
      have kcf := block_cell KF
      clear KF
      simp [results, Try.results43, go_sem, kcf]
    case hb => exact below_set (below_set (below_on (below_on HB.out HB1.out) HB2.out) (by omega)) (by omega)
    case ht =>
      have h9 : W.heap.size ≤ w1.heap.size := HB1.out.size
      have ht9 := TabW.set (R := w.heap.size + 1) (i := 1) (u := .slice (some ⟨br2, 0, none⟩) (sortR rs).length (sortR rs).length) (fun b hb => by have : W.heap.size ≤ b := hb.1; omega) (by omega) (TabW.set (R := w.heap.size + 1) (i := 0) (u := .slice pc2 cs.length capc2) (fun b hb => by have : W.heap.size ≤ b := hb.1; omega) (by omega) HT2.out)
      exact ht9.imp (fun b hb => by have : W.heap.size ≤ b := hb.1; omega) (by omega)
end Go.Proofs.Ytjekpclbedbaoaa.TN
