/-
  The contract of Go's sort, laid at this program's numbers.
  What Go's slices.SortFunc leaves of rows: canonical order.
  What table.inOrder returns, whatever function makes the rows anew.
  What table.pick returns, for values and for columns.
  What table.placesOf returns, for all names and columns.
  What schema.colsMayBe and schema.noNameTwice return, for all columns.
-/
import Derived.Test.YtlbjbkhcnafhcaaGreatProg
import Derived.Test.YtlbjbkhcnafhcaaGreatQRows2
import Derived.Test.YtlbjbkhcnafhcaaGreatP09Txt
import Derived.Test.YtlbjbkhcnafhcaaGreatP18SWord
import Derived.Shelf.SlSortCmp.NoneTotal
import Derived.Laws.MakeOwn
import Derived.Deep.RegionHeld
import Derived.Deep.Heap
import Derived.Laws.IdiomCopy
namespace Go.Proofs
open Go.Shelf
def Tryz.sortL_ren : Go.Shelf.Ren := ⟨fun | 6 => 89 | 15 => 111 | 14 => 110 | 28 => 131 | 29 => 132 | 20 => 123 | 21 => 124 | 22 => 125 | 23 => 126 | 24 => 127 | 25 => 128 | 26 => 129 | 27 => 130 | 46 => 137 | 47 => 138 | 48 => 139 | 49 => 140 | 50 => 141 | 57 => 147 | n => n, fun | 22 => 42 | 24 => 32 | 25 => 81 | 3 => 3 | 39 => 160 | 0 => 0 | 53 => 180 | 55 => 182 | 4 => 4 | 46 => 174 | 45 => 173 | 50 => 107 | 5 => 5 | 9 => 9 | 66 => 185 | 70 => 189 | 76 => 193 | 77 => 194 | n => n, fun | n => n⟩
theorem Tryz.sortL : Go.Proofs.SlLaysF.n6 Tryz.prog Tryz.sortL_ren := {
  mixed := by kernel_rfl
  f6 := ⟨Tryz.f89.name, by decide, Tryz.func89.trans (congrArg some (by kernel_rfl))⟩
  f14 := ⟨Tryz.f110.name, by decide, Tryz.func110.trans (congrArg some (by kernel_rfl))⟩
  f15 := Tryz.func111.trans (congrArg some (by kernel_rfl))
  f20 := ⟨Tryz.f123.name, by decide, Tryz.func123.trans (congrArg some (by kernel_rfl))⟩
  f21 := ⟨Tryz.f124.name, by decide, Tryz.func124.trans (congrArg some (by kernel_rfl))⟩
  f22 := ⟨Tryz.f125.name, by decide, Tryz.func125.trans (congrArg some (by kernel_rfl))⟩
  f23 := ⟨Tryz.f126.name, by decide, Tryz.func126.trans (congrArg some (by kernel_rfl))⟩
  f24 := ⟨Tryz.f127.name, by decide, Tryz.func127.trans (congrArg some (by kernel_rfl))⟩
  f25 := ⟨Tryz.f128.name, by decide, Tryz.func128.trans (congrArg some (by kernel_rfl))⟩
  f26 := ⟨Tryz.f129.name, by decide, Tryz.func129.trans (congrArg some (by kernel_rfl))⟩
  f27 := ⟨Tryz.f130.name, by decide, Tryz.func130.trans (congrArg some (by kernel_rfl))⟩
  f28 := Tryz.func131.trans (congrArg some (by kernel_rfl))
  f29 := Tryz.func132.trans (congrArg some (by kernel_rfl))
  f46 := ⟨Tryz.f137.name, by decide, Tryz.func137.trans (congrArg some (by kernel_rfl))⟩
  f47 := Tryz.func138.trans (congrArg some (by kernel_rfl))
  f48 := Tryz.func139.trans (congrArg some (by kernel_rfl))
  f49 := ⟨Tryz.f140.name, by decide, Tryz.func140.trans (congrArg some (by kernel_rfl))⟩
  f50 := ⟨Tryz.f141.name, by decide, Tryz.func141.trans (congrArg some (by kernel_rfl))⟩
  f57 := ⟨Tryz.f147.name, by decide, Tryz.func147.trans (congrArg some (by kernel_rfl))⟩
  t0 := Tryz.underlying0
  a0 := Tryz.isAgg0
  z0 := Tryz.sizeOf0
  v0 := Tryz.zeroValue0
  t3 := Tryz.underlying3
  a3 := Tryz.isAgg3
  z3 := Tryz.sizeOf3
  v3 := Tryz.zeroValue3
  t4 := Tryz.underlying4
  a4 := Tryz.isAgg4
  z4 := Tryz.sizeOf4
  v4 := Tryz.zeroValue4
  t5 := Tryz.underlying5
  a5 := Tryz.isAgg5
  z5 := Tryz.sizeOf5
  v5 := Tryz.zeroValue5
  t9 := Tryz.underlying9
  a9 := Tryz.isAgg9
  z9 := Tryz.sizeOf9
  v9 := Tryz.zeroValue9
  t22 := Tryz.underlying42
  a22 := Tryz.isAgg42
  z22 := Tryz.sizeOf42
  v22 := Tryz.zeroValue42
  a24 := Tryz.isAgg32
  z24 := Tryz.sizeOf32
  t25 := Tryz.underlying81
  a25 := Tryz.isAgg81
  z25 := Tryz.sizeOf81
  v25 := Tryz.zeroValue81
  t39 := Tryz.underlying160
  a39 := Tryz.isAgg160
  z39 := Tryz.sizeOf160
  v39 := Tryz.zeroValue160
  t45 := Tryz.underlying173
  a45 := Tryz.isAgg173
  z45 := Tryz.sizeOf173
  v45 := Tryz.zeroValue173
  t46 := Tryz.underlying174
  a46 := Tryz.isAgg174
  z46 := Tryz.sizeOf174
  v46 := Tryz.zeroValue174
  t50 := Tryz.underlying107
  a50 := Tryz.isAgg107
  z50 := Tryz.sizeOf107
  v50 := Tryz.zeroValue107
  t53 := Tryz.underlying180
  a53 := Tryz.isAgg180
  z53 := Tryz.sizeOf180
  v53 := Tryz.zeroValue180
  t55 := Tryz.underlying182
  a55 := Tryz.isAgg182
  z55 := Tryz.sizeOf182
  v55 := Tryz.zeroValue182
  t66 := Tryz.underlying185
  a66 := Tryz.isAgg185
  z66 := Tryz.sizeOf185
  v66 := Tryz.zeroValue185
  t70 := Tryz.underlying189
  a70 := Tryz.isAgg189
  z70 := Tryz.sizeOf189
  v70 := Tryz.zeroValue189
  t76 := Tryz.underlying193
  a76 := Tryz.isAgg193
  z76 := Tryz.sizeOf193
  v76 := Tryz.zeroValue193
  t77 := Tryz.underlying194
  a77 := Tryz.isAgg194
  z77 := Tryz.sizeOf194
  v77 := Tryz.zeroValue194 }
end Go.Proofs
namespace Go.Proofs.YtlbjbkhcnafhcaaGreat
open Go.RowKit Go.Sort Go.Shelf

theorem slice_one {Q : Nat → Prop} {w : World} {h : Value} {r : Rw} (hr : RowIn Q w h r) : h.oneCell' = true := by
  obtain ⟨p, cap, rfl, _⟩ := hr; rfl
def encH (hs : List Value) (i : Nat) : Value := hs.getD i (.slice none 0 0)
def datR (ds : List Rw) (i : Nat) : Rw := ds.getD i []
def cfR (ds : List Rw) (i j : Nat) : Int := cmpR (datR ds i) (datR ds j)
theorem heads_get {Q : Nat → Prop} {w : World} {hs : List Value} {ds : List Rw} (h : HeadsIn Q w hs ds) (i : Nat) : RowIn Q w (encH hs i) (datR ds i) := by
  unfold encH datR
  by_cases hi : i < hs.length
  · have hi' : i < ds.length := by rw [← h.1]; exact hi
    rw [List.getD_eq_getElem?_getD, List.getD_eq_getElem?_getD, List.getElem?_eq_getElem hi, List.getElem?_eq_getElem hi']
    exact h.2 i _ _ (List.getElem?_eq_getElem hi) (List.getElem?_eq_getElem hi')
  · have hi' : ¬ i < ds.length := by rw [← h.1]; exact hi
    rw [List.getD_eq_getElem?_getD, List.getD_eq_getElem?_getD, List.getElem?_eq_none (by omega), List.getElem?_eq_none (by omega)]
    exact SlAt.nil _ _ _ _
theorem lt_true {ds : List Rw} {x y : Nat} : ltOf (cfR ds) x y = true ↔ cmpR (datR ds x) (datR ds y) < 0 := ⟨fun h => of_decide_eq_true h, fun h => decide_eq_true h⟩
theorem lt_false {ds : List Rw} {x y : Nat} : ltOf (cfR ds) x y = false ↔ ¬ cmpR (datR ds x) (datR ds y) < 0 := ⟨fun h => of_decide_eq_false h, fun h => decide_eq_false h⟩
theorem swoR (ds : List Rw) : SWO (ltOf (cfR ds)) where
  irrefl x := by rw [lt_false, (cmpR_zero _ _).2 rfl]; omega
  trans x y z h1 h2 := by
    rw [lt_true] at *
    obtain ⟨a, b, c, d, e, f, g⟩ := tri_cmpR (datR ds x) (datR ds y) (datR ds z)
    omega
  ntrans x y z h1 h2 := by
    rw [lt_false] at *
    obtain ⟨a, b, c, d, e, f, g⟩ := tri_cmpR (datR ds x) (datR ds y) (datR ds z)
    omega
theorem grow_of_grew {w w' : World} (h : Grew w w') : ∃ q os, w' = grow (w.drewN q) os := by
  obtain ⟨⟨d, os⟩, hw⟩ := regrown_of_below h.below
  have hd := h.drawn
  subst hw
  refine ⟨d - w.drawn, os, ?_⟩
  have e : w.drawn + (d - w.drawn) = d := by
    have : w.drawn ≤ d := hd
    omega
  show grow (redrawn w d) os = grow { w with drawn := w.drawn + (d - w.drawn) } os
  rw [e]; rfl
theorem cell_sortWorld {enc : Nat → Value} {w : World} {blk off m : Nat} {dk : Array Nat} {os : Array Obj} {a : Addr} {v : Value} (hne : a.block ≠ blk) (h : w.cell? a = some v) : (sortWorld enc w blk off m dk os).cell? a = some v := by
  unfold sortWorld
  rw [cell?_grow _ _ _ (by rw [size_putRow]; exact block_lt_of_cell h), cell?_putRow_other _ _ _ _ _ _ (Or.inl hne), cell?_ahead]
  exact h
theorem row_sortWorld {Q : Nat → Prop} {enc : Nat → Value} {w : World} {blk off m : Nat} {dk : Array Nat} {os : Array Obj} {v : Value} {r : Rw} (hq : ∀ b, Q b → b ≠ blk) (h : RowIn Q w v r) : RowIn Q (sortWorld enc w blk off m dk os) v r := by
  obtain ⟨p, cap, hv, hc, hm, hx⟩ := h
  exact ⟨p, cap, hv, hc, hm, fun hne => let ⟨b, o, hp, hQ, hj⟩ := hx hne; ⟨b, o, hp, hQ, fun j x hjx i u hu => cell_sortWorld (hq b hQ.1) (hj j x hjx i u hu)⟩⟩
theorem below_sortWorld {enc : Nat → Value} {w : World} {blk off m base : Nat} {dk : Array Nat} {os : Array Obj} (hb : base ≤ blk) (hl : base ≤ w.heap.size) : Below base w (sortWorld enc w blk off m dk os) := by
  refine ⟨rfl, rfl, rfl, ?_, fun k hk => ?_⟩
  · unfold sortWorld; rw [size_grow, size_putRow]; exact Nat.le_add_right _ _
  · unfold sortWorld
    rw [heap_grow_old _ _ (by rw [size_putRow]; show k < w.heap.size; omega)]
    show (w.heap.modify blk _)[k]? = _
    rw [Array.getElem?_modify, if_neg (by omega)]
theorem sort_any {Q : Nat → Prop} {hs : List Value} {ds : List Rw} {B n cap base : Nat} {w : World} (hblk : w.heap[B]? = some (.cells hs.toArray 32 (0, 0))) (hq : ∀ b, Q b → b ≠ B) (hh : HeadsIn Q w hs ds) (hn : hs.length = n) (hsz : n * 24 ≤ 140737488355328) (hcap : n ≤ cap) (hbase : base ≤ B) :
    Calls Tryz.prog 89 #[.slice (some ⟨B, 0, none⟩) n cap, .func (.func 90) #[] #[]] w fun e w' => e = .returned (.tuple #[]) ∧ (∃ hs', SlAt (fun b => b = B) one 1 w' (.slice (some ⟨B, 0, none⟩) n cap) hs' ∧ HeadsIn Q w' hs' (sortR ds)) ∧ Below base w w' := by
  have hB : B < w.heap.size := lt_of_block hblk
  have eg : ∀ args w, (callFunc 90 args).run Tryz.prog w = .ok (.enter 90 args) w := enters_of Tryz.func90 (by kernel_rfl) rfl
  have h1 : OneCell (encH hs) := fun i => slice_one (heads_get hh i)
  have hcmp : ∀ size, CmpLays1 Tryz.prog 90 #[] (encH hs) (cfR ds) B 0 size w := fun size m os dk _ x y =>
    (compareRows_any (row_sortWorld hq (heads_get hh x)).at (row_sortWorld hq (heads_get hh y)).at).mono fun e w' ⟨he, hg⟩ => ⟨he, grow_of_grew hg⟩
  have hsize : (Array.range n).size = n := Array.size_range
  have hget : ∀ j, j < n → (Array.range n)[j]! = j := fun j hj => by rw [getElem!_pos _ j (by rw [hsize]; exact hj)]; simp
  have hH : Holds (encH hs) w B 0 (Array.range n) := fun j hj => by
    rw [hsize] at hj
    rw [hget j hj, Nat.zero_add]
    refine ⟨?_, by simp [World.frozen?, hblk]⟩
    rw [block_cell hblk]
    unfold encH
    rw [List.getD_eq_getElem?_getD, List.getElem?_toArray, List.getElem?_eq_getElem (by omega)]; rfl
  have hS := Any.slices_SortFunc Tryz.sortL (encH hs) h1 (cfR ds) (swoR ds) 90 #[] B 0 cap (Array.range n) w eg (hcmp _) hH hB (by rw [hsize]; omega)
  rw [hsize] at hS
  refine Calls.mono (show Calls Tryz.prog 89 _ _ _ from hS) ?_
  rintro e w' ⟨he, d', m, os, hp, hso, rfl⟩
  obtain ⟨hs1, _, hp1⟩ := hp
  rw [hsize] at hs1
  have e1 : d'.extract 0 n = d' := by rw [← hs1]; exact Array.extract_size
  have e2 : (Array.range n).extract 0 n = Array.range n := by
    have := Array.extract_size (xs := Array.range n)
    rwa [hsize] at this
  rw [e1, e2] at hp1
  have hds : ((Array.range n).toList.map (datR ds)) = ds := by
    apply List.ext_getElem?
    intro i
    rw [List.getElem?_map, Array.toList_range]
    have hl : ds.length = n := by rw [← hh.1]; exact hn
    by_cases hi : i < n
    · rw [List.getElem?_range hi, List.getElem?_eq_getElem (by omega)]
      simp only [Option.map_some, datR, List.getD_eq_getElem?_getD]
      rw [List.getElem?_eq_getElem (by omega)]; rfl
    · rw [List.getElem?_eq_none (by simp; omega), List.getElem?_eq_none (by omega)]; rfl
  have hperm : (d'.toList.map (datR ds)).Perm ds := by
    have := hp1.map (datR ds)
    rwa [hds] at this
  have hup : upR (d'.toList.map (datR ds)) := by
    unfold upR
    rw [List.pairwise_map, List.pairwise_iff_getElem]
    intro i j hi hj hij
    have hi' : i < d'.size := by simpa using hi
    have hj' : j < d'.size := by simpa using hj
    have := hso i j (Nat.zero_le _) hij (by omega)
    rw [lt_false, getElem!_pos d' j hj', getElem!_pos d' i hi'] at this
    have hneg := neg_cmpR (datR ds d'[i]) (datR ds d'[j])
    show cmpR (datR ds d'.toList[i]) (datR ds d'.toList[j]) ≤ 0
    rw [Array.getElem_toList, Array.getElem_toList]
    omega
  have hsort := sortR_of hup hperm
  refine ⟨he, ⟨d'.toList.map (encH hs), ?_, ?_⟩, below_sortWorld hbase (by omega)⟩
  · refine ⟨some ⟨B, 0, none⟩, cap, by simp [hs1], ⟨by simp [hs1]; exact hcap, fun h => by cases h⟩, by simp only [List.length_map, Array.length_toList, hs1]; unfold maxLen; omega, fun _ => ⟨B, 0, rfl, ⟨rfl, by simp only [List.length_map, Array.length_toList, hs1]; exact hsz⟩, fun j x hx i u hu => ?_⟩⟩
    match i, hu with
    | 0, hu =>
      simp [one] at hu
      subst hu
      rw [List.getElem?_map] at hx
      obtain ⟨y, hy, rfl⟩ := Option.map_eq_some_iff.1 hx
      have hj : j < d'.size := by simpa using (List.getElem?_eq_some_iff.1 hy).1
      have hy' : d'[j]! = y := by
        rw [getElem!_pos d' j hj]
        have := (List.getElem?_eq_some_iff.1 hy).2
        rwa [Array.getElem_toList] at this
      have hc := cell?_putRow (encH hs) (Sort.ahead w m) B 0 (Array.range n) d' hH (by rw [hs1, hsize]) j hj
      rw [hy'] at hc
      unfold sortWorld
      rw [cell?_grow _ _ _ (by rw [size_putRow]; exact hB)]
      simpa using hc
    | i + 1, hu => simp [one] at hu
  · rw [← hsort]
    refine ⟨by simp, fun j h r h1 h2 => ?_⟩
    rw [List.getElem?_map] at h1 h2
    obtain ⟨y, hy, rfl⟩ := Option.map_eq_some_iff.1 h1
    obtain ⟨y', hy', rfl⟩ := Option.map_eq_some_iff.1 h2
    rw [hy] at hy'
    injection hy' with hy'
    subst hy'
    exact row_sortWorld hq (heads_get hh y)
end Go.Proofs.YtlbjbkhcnafhcaaGreat
namespace Go.Proofs.YtlbjbkhcnafhcaaGreat
open Go.RowKit Go.Sort Go.Shelf

def nilS : Value := .slice none 0 0
theorem made_one (z : Value) (n : Nat) : madeCells #[z] n = (List.replicate n z).toArray := by
  unfold madeCells
  apply Array.ext
  · simp
  · intro i h1 h2; simp [Nat.mod_one]
theorem make_rows (n : Nat) (hn : n * 24 ≤ 140737488355328) (W : World) : (Instr.makeSlice 42 (.int .i64 (n : Int)) (.int .i64 (n : Int))).run Tryz.prog W = .ok (.slice (some ⟨W.heap.size, 0, none⟩) n n) (W.alloc (.cells (List.replicate n nilS).toArray 32)) := by
  obtain ⟨i, hi, h0, h1, h2⟩ := info_parts info35
  have h := run_make W 42 32 i _ Tryz.underlying42 hi h0 .i64 .i64 (n : Int) (n : Int) (by omega) (Int.le_refl _) (by rw [h2]; omega) (by omega)
  rw [h, h1, Int.toNat_natCast, Nat.mul_one]
  show Result.ok _ (W.alloc (.cells (madeCells #[.slice none 0 0] n) 32)) = _
  rw [made_one]; rfl
/- The rows made so far, behind them what make leaves. -/
def part (hs : List Value) (n : Nat) : Array Value := (hs ++ List.replicate (n - hs.length) nilS).toArray
theorem part_set {hs : List Value} {n : Nat} (h : hs.length < n) (v : Value) : (part hs n).setIfInBounds hs.length v = part (hs ++ [v]) n := by
  obtain ⟨m, hm⟩ : ∃ m, n - hs.length = m + 1 := ⟨n - hs.length - 1, by omega⟩
  unfold part
  rw [hm, show n - (hs ++ [v]).length = m from by simp; omega, List.replicate_succ]
  apply Array.ext'
  simp
theorem part_all {hs : List Value} {n : Nat} (h : hs.length = n) : part hs n = hs.toArray := by
  unfold part; rw [h, Nat.sub_self]; simp
theorem heads_snoc {Q : Nat → Prop} {w : World} {hs : List Value} {ds : List Rw} {h : Value} {r : Rw} (hh : HeadsIn Q w hs ds) (hr : RowIn Q w h r) : HeadsIn Q w (hs ++ [h]) (ds ++ [r]) := by
  refine ⟨by simp [hh.1], fun j x y hx hy => ?_⟩
  by_cases hj : j < hs.length
  · rw [List.getElem?_append_left hj] at hx
    rw [List.getElem?_append_left (by rw [← hh.1]; exact hj)] at hy
    exact hh.2 j x y hx hy
  · rw [List.getElem?_append_right (by omega)] at hx
    rw [List.getElem?_append_right (by rw [← hh.1]; omega), ← hh.1] at hy
    cases hd : j - hs.length with
    | zero => rw [hd] at hx hy; simp at hx hy; subst hx hy; exact hr
    | succ m => rw [hd] at hx; simp at hx
/- A store into block R leaves slices in other blocks. -/
theorem SlAt.set {α : Type} {Q : Nat → Prop} {enc : α → List Value} {k : Nat} {w : World} {v : Value} {xs : List α} {R i : Nat} {u : Value} (hq : ∀ b, Q b → b ≠ R) (h : SlAt Q enc k w v xs) : SlAt Q enc k (w.setCell ⟨R, i, none⟩ u) v xs := by
  obtain ⟨p, cap, hv, hc, hm, hx⟩ := h
  exact ⟨p, cap, hv, hc, hm, fun hne => let ⟨b, o, hp, hQ, hj⟩ := hx hne; ⟨b, o, hp, hQ, fun j x hjx i' u' hu => (World.cell?_setCell_far _ _ _ _ (fun e => hq b hQ.1 e.symm)).trans (hj j x hjx i' u' hu)⟩⟩
theorem HeadsIn.set {Q : Nat → Prop} {w : World} {hs : List Value} {rs : List Rw} {R i : Nat} {u : Value} (hq : ∀ b, Q b → b ≠ R) (h : HeadsIn Q w hs rs) : HeadsIn Q (w.setCell ⟨R, i, none⟩ u) hs rs := ⟨h.1, fun j x r h1 h2 => SlAt.set hq (h.2 j x r h1 h2)⟩
theorem TabIn.set {Q : Nat → Prop} {w : World} {v : Value} {cs : List Cl} {rs : List Rw} {R i : Nat} {u : Value} (hq : ∀ b, Q b → b ≠ R) (h : TabIn Q w v cs rs) : TabIn Q (w.setCell ⟨R, i, none⟩ u) v cs rs := let ⟨c, r, h0, h1, hs, h2, h3⟩ := h; ⟨c, r, h0, h1.set hq, hs, h2.set hq, h3.set hq⟩
theorem SlAt.lt {α : Type} {Q : Nat → Prop} {enc : α → List Value} {k : Nat} {w : World} {v : Value} {xs : List α} (hk : ∀ x, (enc x).length = k) (hp : 0 < k) (h : SlAt Q enc k w v xs) : SlAt (fun b => Q b ∧ b < w.heap.size) enc k w v xs := by
  obtain ⟨p, cap, hv, hc, hm, hx⟩ := h
  refine ⟨p, cap, hv, hc, hm, fun hne => ?_⟩
  obtain ⟨b, o, hpp, hQ, hj⟩ := hx hne
  refine ⟨b, o, hpp, ⟨⟨hQ.1, ?_⟩, hQ.2⟩, hj⟩
  cases xs with
  | nil => exact absurd rfl hne
  | cons y ys =>
    have h0 := hj 0 y rfl
    have hy : (enc y)[0]? = some ((enc y)[0]'(by rw [hk]; exact hp)) := List.getElem?_eq_getElem _
    exact block_lt_of_cell (h0 0 _ hy)
theorem frozen_no {w : World} {b : Nat} {xs : Array Value} {t : TypeId} (h : w.heap[b]? = some (.cells xs t (0, 0))) (o : Nat) : w.frozen? ⟨b, o, none⟩ = false := by simp [World.frozen?, h]
theorem part_nil {hs : List Value} {n : Nat} (h : hs.length < n) : (part hs n)[hs.length]? = some nilS := by
  unfold part
  rw [List.getElem?_toArray, List.getElem?_append_right (Nat.le_refl _), Nat.sub_self, List.getElem?_replicate, if_pos (by omega)]
theorem take_map_snoc {rs : List Rw} {f : Rw → Rw} {k : Nat} (h : k < rs.length) : (rs.take (k + 1)).map f = (rs.take k).map f ++ [f rs[k]!] := by
  have e : rs[k]! = rs[k] := by rw [List.getElem!_eq_getElem?_getD, List.getElem?_eq_getElem h]; rfl
  rw [List.take_succ_eq_append_getElem h, List.map_append, e]; rfl
theorem below_set {B : Nat} {w w' : World} {R i : Nat} {u : Value} (h : Below B w w') (hR : B ≤ R) : Below B w (w'.setCell ⟨R, i, none⟩ u) := by
  refine ⟨h.os, h.tape, h.output, ?_, fun k hk => ?_⟩
  · exact Nat.le_trans h.size (by rw [World.size_setCell]; exact Nat.le_refl _)
  · rw [Deep.blk_setCell_other _ _ _ _ (by show k ≠ R; omega)]; exact h.block k hk
set_option maxHeartbeats 1000000 in
theorem inOrder_any {Qc : Nat → Prop} {c rv : Value} {cs : List Cl} {rs : List Rw} {g : Nat} {cb : Array Value} {f : Rw → Rw} {w : World} (hc : SlAt Qc Cl.cells 2 w c cs) (hr : RowsAt w rv rs)
    (eg : ∀ args w, (callFunc g args).run Tryz.prog w = .ok (.enter g args) w)
    (ha : ∀ (W : World) (h : Value) (r : Rw), r ∈ rs → Below w.heap.size w W → RowAt W h r → Calls Tryz.prog g (#[h] ++ cb) W fun e w' => ∃ v', e = .returned v' ∧ RowIn (fun b => W.heap.size ≤ b) w' v' (f r) ∧ Below W.heap.size W w') :
    Calls Tryz.prog 63 #[c, rv, .func (.func g) #[] cb] w fun e w' => ∃ v, e = .returned v ∧ TabIn (fun b => Qc b ∨ w.heap.size ≤ b) w' v cs (sortR (rs.map f)) ∧ Below w.heap.size w w' := by
  obtain ⟨hs, hsl, hh⟩ := hr
  have hbnd := SlAt.bound hsl
  obtain ⟨p, cap, rfl, hcap, hmax, hx⟩ := hsl
  unfold maxLen at hmax
  have HX := hid hx
  have HC := hid hc
  have HH := hid hh
  have HAN := hid ha
  clear hx hc hh ha
  generalize hn : hs.length = n at *
  have HN := hid hn
  clear hn
  have hbnd' : n * 24 ≤ 140737488355328 := hbnd
  clear hbnd
  have hmk := make_rows n hbnd'
  have HCL := hid (SlAt.lt cl_len (by omega) HC.out)
  obtain ⟨pc, capc, rfl, -⟩ := HC.out
  clear HC
  generalize cs.length = nc at *
  have hr0 : (part [] n) = Array.replicate n nilS := by unfold part; simp
  go_enter Tryz.func63, Tryz.ntmps63
  go_wp2
  have K0 := hid (block_on (alloc_block w (.cells #[.slice none 0 0, .slice none 0 0] 44)) ((Below.refl _ _).alloc (Nat.le_refl _) (.cells (Array.replicate n nilS) 32)))
  have K1 : Hid (((w.alloc (.cells #[.slice none 0 0, .slice none 0 0] 44)).alloc (.cells (Array.replicate n nilS) 32)).heap[w.heap.size + 1]? = some (.cells (part [] n) 32 (0, 0))) := by
    rw [hr0]
    have h := alloc_block (w.alloc (.cells #[.slice none 0 0, .slice none 0 0] 44)) (.cells (Array.replicate n nilS) 32)
    rw [World.size_alloc] at h
    exact h
  have HB0 := hid (((Below.refl w.heap.size w).alloc (Nat.le_refl _) (.cells #[.slice none 0 0, .slice none 0 0] 44)).alloc (by simp) (.cells (Array.replicate n nilS) 32))
  go_loopw [15] (fun i wr => ∃ (k : Nat) (hs' : List Value), k ≤ n ∧ i = .int .i64 k ∧ hs'.length = k ∧ Hid (wr.heap[w.heap.size + 1]? = some (.cells (part hs' n) 32 (0, 0))) ∧ Hid (HeadsIn (fun b => w.heap.size + 1 < b) wr hs' ((rs.take k).map f)) ∧ Hid (wr.heap[w.heap.size]? = some (.cells #[.slice none 0 0, .slice none 0 0] 44 (0, 0))) ∧ Hid (Below w.heap.size w wr)) (fun i _ => n - (intOf i).toNat)
  case atStart => exact ⟨0, [], by omega, rfl, rfl, K1.out, ⟨by simp, fun j h r h1 _ => by simp at h1⟩, K0.out, HB0.out⟩
  case round =>
    obtain ⟨k, hs', hk, rfl, hl, HK1, HH', HK0, HB⟩ := hrel
    by_cases hlt : k < n
    · have hkh : k < hs.length := by rw [HN.out]; exact hlt
      have hkr : k < rs.length := by rw [← HH.out.1]; exact hkh
      obtain ⟨b, o, rfl, -, hj⟩ := HX.out (by intro e; subst e; simp at hkh)
      have hd := head_cell (fun j x hjx => (hj j x hjx).on HB.out) (get!_some hkh)
      have HRow := hid ((HH.out.2 k _ _ (get!_some hkh) (get!_some hkr)).on HB.out)
      have HM := hid (List.mem_of_getElem? (get!_some hkr))
      generalize hs[k]! = hd0 at hd HRow
      have HT := hid (take_map_snoc (f := f) hkr)
      generalize rs[k]! = r0 at HRow HM HT
      clear hj
      have hlt1 := lt_of_block HK1.out
      go_wp2_with (first | (go_at_fn g; refine (HAN.out wr hd0 r0 HM.out HB.out HRow.out).mono ?_; rintro e w1 ⟨v', rfl, hrow, hb1⟩; have HROW := hid hrow; have HB1 := hid hb1; have K1' := hid (block_on HK1.out hb1); have hc1 : w1.cell? ⟨w.heap.size + 1, k, none⟩ = some nilS := (by rw [block_cell K1'.out]; subst hl; exact part_nil hlt); have hf1 := frozen_no K1'.out; obtain ⟨p', cap', rfl, -⟩ := hrow; clear hb1))
      generalize List.length (f r0) = n0 at *
      go_roundw
      case rel =>
        refine ⟨k + 1, hs' ++ [.slice p' n0 cap'], by omega, by go_num, by simp [hl], ?_, ?_, ?_, ?_⟩
        · show _ = _
          rw [Joins.block_setCell K1'.out, ← part_set (by omega), hl]
        · show HeadsIn _ _ _ _
          rw [HT.out]
          exact heads_snoc (HeadsIn.set (fun b (hb : w.heap.size + 1 < b) => by omega) (HH'.out.on HB1.out)) (SlAt.set (fun b (hb : w.heap.size + 1 < b) => by omega) (RowIn.imp HROW.out (fun b (hb : wr.heap.size ≤ b) => by omega)))
        · show _ = _
          rw [Deep.blk_setCell_other _ _ _ _ (by simp)]; exact block_on HK0.out HB1.out
        · exact below_set (below_on HB.out HB1.out) (by omega)
      case measure => simp [intOf]; omega
    · have hks : k = n := by omega
      subst hks
      have hrl : rs.take k = rs := by rw [List.take_of_length_le]; rw [← HH.out.1, HN.out]; exact Nat.le_refl _
      rw [hrl] at HH'
      have K1' := hid HK1.out
      rw [part_all hl] at K1'
      go_wp2_with (first | (go_at_call 89; refine (sort_any (base := w.heap.size + 1) K1'.out (fun b (hb : w.heap.size + 1 < b) => by omega) HH'.out hl hbnd' (Nat.le_refl _) (Nat.le_refl _)).mono ?_; rintro e w2 ⟨rfl, ⟨hs2, hsl, hh2⟩, hb2⟩; have HSL := hid hsl; have HH2 := hid hh2; have HB2 := hid hb2; have K2 := hid ((hb2.block w.heap.size (by omega)).trans HK0.out); have kc := block_cell K2.out; have kf := frozen_no K2.out; clear hsl hh2 hb2))
      refine bodyPost_ret (v := .agg #[.slice pc nc capc, .slice (some ⟨w.heap.size + 1, 0, none⟩) k k]) ?hv rfl ⟨_, rfl, ?ht, ?hb⟩
      case hv =>
        have KF := Joins.block_setCell (i := 1) (Joins.block_setCell (i := 0) K2.out (.slice pc nc capc)) (.slice (some ⟨w.heap.size + 1, 0, none⟩) k k)
        generalize ((w2.setCell ⟨w.heap.size, 0, none⟩ (.slice pc nc capc)).setCell ⟨w.heap.size, 1, none⟩ (.slice (some ⟨w.heap.size + 1, 0, none⟩) k k)) = WF at KF ⊢
        have kcf := block_cell KF
        clear KF kc kf
        simp [results, Tryz.results63, go_sem, kcf]
      case hb => exact below_set (below_set (HB.out.trans (HB2.out.mono (by omega))) (Nat.le_refl _)) (Nat.le_refl _)
      case ht =>
        refine ⟨_, _, rfl, ?_, hs2, ?_, ?_⟩
        · exact SlAt.imp (SlAt.set (fun b (hb : Qc b ∧ b < w.heap.size) => by omega) (SlAt.set (fun b (hb : Qc b ∧ b < w.heap.size) => by omega) (SlAt.on HCL.out (HB.out.trans (HB2.out.mono (by omega)))))) (fun _ hb => Or.inl hb.1)
        · exact SlAt.imp (SlAt.set (fun b (hb : b = w.heap.size + 1) => by omega) (SlAt.set (fun b (hb : b = w.heap.size + 1) => by omega) HSL.out)) (fun b (hb : b = w.heap.size + 1) => Or.inr (by omega))
        · exact HeadsIn.imp (HeadsIn.set (fun b (hb : w.heap.size + 1 < b) => by omega) (HeadsIn.set (fun b (hb : w.heap.size + 1 < b) => by omega) HH2.out)) (fun b (hb : w.heap.size + 1 < b) => Or.inr (by omega))
end Go.Proofs.YtlbjbkhcnafhcaaGreat
namespace Go.Proofs.YtlbjbkhcnafhcaaGreat
open Go.RowKit Go.Sort Go.Shelf

def encN (n : Nat) : List Value := [.int .i64 (n : Int)]
theorem take_map_snoc_gen {β : Type} {ps : List Nat} {f : Nat → β} {k : Nat} (h : k < ps.length) : (ps.take (k + 1)).map f = (ps.take k).map f ++ [f ps[k]!] := by
  have e : ps[k]! = ps[k] := by rw [List.getElem!_eq_getElem?_getD, List.getElem?_eq_getElem h]; rfl
  rw [List.take_succ_eq_append_getElem h, List.map_append, e]; rfl
/- A block of m elements of k cells, whose first ones are these. -/
structure Filled {α : Type} (enc : α → List Value) (k B m : Nat) (xs : List α) (w : World) : Prop where
  lt : B < w.heap.size
  cell : ∀ i, i < m * k → ∃ y, w.cell? ⟨B, i, none⟩ = some y
  frozen : ∀ i, w.frozen? ⟨B, i, none⟩ = false
  held : ∀ (j : Nat) x, xs[j]? = some x → CellsAt w B (j * k) (enc x)
theorem Filled.start {α : Type} (enc : α → List Value) (k m e : Nat) (w : World) {C : Array Value} (hc : C.size = m * k) : Filled enc k w.heap.size m ([] : List α) (w.alloc (.cells C e)) := by
  have hb := alloc_block w (.cells C e)
  refine ⟨by simp, fun i hi => ⟨C[i]'(by omega), ?_⟩, fun i => frozen_no hb i, fun j x h => by simp at h⟩
  rw [block_cell hb]; exact Array.getElem?_eq_getElem _
theorem frozen_sets (b : Nat) : ∀ (vs : List Value) (o : Nat) (w : World) (a : Addr), (w.setCells b o vs).frozen? a = w.frozen? a
  | [], _, _, _ => rfl
  | v :: vs, o, w, a => by rw [World.setCells, frozen_sets b vs]; simp
theorem below_sets {B : Nat} {w w' : World} {R : Nat} (h : Below B w w') (hR : B ≤ R) : ∀ (vs : List Value) (o : Nat), Below B w (w'.setCells R o vs)
  | [], _ => h
  | v :: vs, o => by rw [World.setCells]; exact below_sets (below_set h hR) hR vs (o + 1)
theorem size_sets (b : Nat) : ∀ (vs : List Value) (o : Nat) (w : World), (w.setCells b o vs).heap.size = w.heap.size
  | [], _, _ => rfl
  | v :: vs, o, w => by rw [World.setCells, size_sets b vs, World.size_setCell]
theorem Filled.put {α : Type} {enc : α → List Value} {k B m : Nat} {xs : List α} {w : World} {x : α} (h : Filled enc k B m xs w) (hk : ∀ x, (enc x).length = k) (hkm : (xs.length + 1) * k ≤ m * k) : Filled enc k B m (xs ++ [x]) (w.setCells B (xs.length * k) (enc x)) := by
  have hin := World.cell?_setCells_in B (enc x) (xs.length * k) w (fun j hj => by
    rw [hk] at hj
    obtain ⟨y, hy⟩ := h.cell (xs.length * k + j) (by rw [Nat.succ_mul] at hkm; omega)
    rw [hy]; rfl)
  have hout := fun a => World.cell?_setCells_out B (enc x) (xs.length * k) w a
  refine ⟨by rw [size_sets]; exact h.lt, fun i hi => ?_, fun i => by rw [frozen_sets]; exact h.frozen i, fun j y hy i u hu => ?_⟩
  · by_cases hc : i < xs.length * k ∨ xs.length * k + (enc x).length ≤ i
    · obtain ⟨y, hy⟩ := h.cell i hi
      exact ⟨y, (hout ⟨B, i, none⟩ (fun _ _ => hc)).trans hy⟩
    · have hj : i - xs.length * k < (enc x).length := by omega
      have := hin (i - xs.length * k) hj
      rw [show xs.length * k + (i - xs.length * k) = i from by omega] at this
      exact ⟨_, this⟩
  · have hiu : i < k := by
      have := (List.getElem?_eq_some_iff.1 hu).1
      rwa [hk] at this
    by_cases hj : j < xs.length
    · rw [List.getElem?_append_left hj] at hy
      have h1 := h.held j y hy i u hu
      have h2 : j * k + i < xs.length * k := by
        have : (j + 1) * k ≤ xs.length * k := Nat.mul_le_mul_right k hj
        rw [Nat.succ_mul] at this; omega
      exact (hout ⟨B, j * k + i, none⟩ (fun _ _ => Or.inl h2)).trans h1
    · rw [List.getElem?_append_right (by omega)] at hy
      cases hd : j - xs.length with
      | succ d => rw [hd] at hy; simp at hy
      | zero =>
        rw [hd] at hy
        simp at hy
        subst hy
        have hje : j = xs.length := by omega
        subst hje
        have hlt := (List.getElem?_eq_some_iff.1 hu).1
        have := hin i hlt
        rw [this, (List.getElem?_eq_some_iff.1 hu).2]
theorem Filled.sl {α : Type} {enc : α → List Value} {k B m : Nat} {xs : List α} {w : World} (h : Filled enc k B m xs w) (hl : xs.length = m) (hm : m ≤ 4096) : SlAt (fun b => B ≤ b) enc k w (.slice (some ⟨B, 0, none⟩) m m) xs := by
  refine ⟨some ⟨B, 0, none⟩, m, by rw [hl], ⟨by omega, fun e => by cases e⟩, by unfold maxLen; omega, fun _ => ⟨B, 0, rfl, ⟨Nat.le_refl _, by unfold bsz; split <;> omega⟩, fun j x hj => ?_⟩⟩
  rw [Nat.zero_add]; exact h.held j x hj

theorem make_pickV (n : Nat) (hn : n ≤ 4096) (W : World) : (Instr.makeSlice 32 (.int .i64 (n : Int)) (.int .i64 (n : Int))).run Tryz.prog W = .ok (.slice (some ⟨W.heap.size, 0, none⟩) n n) (W.alloc (.cells (madeCells (V 0 0 ⟨#[]⟩ 0 0 0 0 0 0 0 0).cells (n * 11)) 40)) := by
  obtain ⟨i, hi, h0, h1, h2⟩ := info_parts info48
  have h := run_make W 32 40 i _ Tryz.underlying32 hi h0 .i64 .i64 (n : Int) (n : Int) (by omega) (Int.le_refl _) (by rw [h2]; omega) (by omega)
  rw [h, h1, Int.toNat_natCast]
theorem make_pickC (n : Nat) (hn : n ≤ 4096) (W : World) : (Instr.makeSlice 41 (.int .i64 (n : Int)) (.int .i64 (n : Int))).run Tryz.prog W = .ok (.slice (some ⟨W.heap.size, 0, none⟩) n n) (W.alloc (.cells (madeCells (Value.agg #[.string ⟨#[]⟩, .int .i64 0]).cells (n * 2)) 90)) := by
  obtain ⟨i, hi, h0, h1, h2⟩ := info_parts info45
  have h := run_make W 41 90 i _ Tryz.underlying41 hi h0 .i64 .i64 (n : Int) (n : Int) (by omega) (Int.le_refl _) (by rw [h2]; omega) (by omega)
  rw [h, h1, Int.toNat_natCast]
end Go.Proofs.YtlbjbkhcnafhcaaGreat
namespace Go.Proofs.YtlbjbkhcnafhcaaGreat
open Go.RowKit Go.Sort Go.Shelf

def encS (s : ByteArray) : List Value := [.string s]
abbrev NamesAt (w : World) (v : Value) (ns : List ByteArray) : Prop := SlAt any encS 1 w v ns
def places (cs : List Cl) : List ByteArray → List Nat → List Nat
  | [], acc => acc
  | nm :: r, acc => if findC cs nm < 0 ∨ (findC cs nm).toNat ∈ acc then [] else places cs r (acc ++ [(findC cs nm).toNat])
theorem places_step {cs : List Cl} {ns : List ByteArray} {acc : List Nat} {k : Nat} (h : k < ns.length) : places cs (ns.drop k) acc = if findC cs ns[k]! < 0 ∨ (findC cs ns[k]!).toNat ∈ acc then [] else places cs (ns.drop (k + 1)) (acc ++ [(findC cs ns[k]!).toNat]) := by
  have e : ns[k]! = ns[k] := by rw [List.getElem!_eq_getElem?_getD, List.getElem?_eq_getElem h]; rfl
  rw [List.drop_eq_getElem_cons h, e]; rfl
theorem findC_lt (cs : List Cl) (nm : ByteArray) : findC cs nm < cs.length := by
  have gen : ∀ (l : List Cl) (i : Nat), Lib.idxByFrom (fun _ y => isNm nm y) default l i < (i : Int) + l.length := by
    intro l
    induction l with
    | nil => intro i; simp [Lib.idxByFrom]; omega
    | cons c r ih =>
      intro i
      have := ih (i + 1)
      simp only [Lib.idxByFrom, List.length_cons]
      split <;> omega
  have := gen cs 0
  simpa [findC, Lib.idxBy] using this
theorem find_is {v : Value} {cs : List Cl} {nm : ByteArray} {w : World} {f : Int} (hv : ColsAt w v cs) (h : findC cs nm = f) :
    Calls Tryz.prog 99 #[v, .string nm] w fun e w' => e = .returned (.int .i64 f) ∧ Below w.heap.size w w' := by rw [← h]; exact find_any hv
theorem Own.on {α : Type} {enc : α → List Value} {k e B : Nat} {w w' : World} {v : Value} {xs : List α} (h : Own enc k e B w v xs) (hb : Below w.heap.size w w') : Own enc k e B w' v xs :=
  ⟨h.1, h.2.elim Or.inl (fun ⟨g, cap, cur, hv, hg, hblk, r⟩ => Or.inr ⟨g, cap, cur, hv, hg, block_on hblk hb, r⟩)⟩
theorem small1 {n : Nat} (h : n ≤ 4096) : n * bsz 1 ≤ 140737488355328 := by
  have e : bsz 1 = 24 := rfl
  rw [e]; omega
theorem lit_sl {α : Type} {enc : α → List Value} {k : Nat} {w : World} {B n cap : Nat} {C : Array Value} {e : TypeId} {xs : List α} (hb : w.heap[B]? = some (.cells C e (0, 0))) (hk : ∀ x, (enc x).length = k) (hC : C.toList = xs.flatMap enc) (hn : n = xs.length) (hcap : n ≤ cap) (hl : xs.length ≤ 4096) : SlAt (fun b => b = B) enc k w (.slice (some ⟨B, 0, none⟩) n cap) xs := by
  subst hn
  refine ⟨some ⟨B, 0, none⟩, cap, rfl, ⟨hcap, fun e => by cases e⟩, by unfold maxLen; omega, fun _ => ⟨B, 0, rfl, ⟨rfl, by unfold bsz; split <;> omega⟩, fun j x hx i u hu => ?_⟩⟩
  have h := flat_get hk xs j x hx i u hu
  rw [block_cell hb, ← Array.getElem?_toList, hC, Nat.zero_add]; exact h
end Go.Proofs.YtlbjbkhcnafhcaaGreat
namespace Go.Proofs.YtlbjbkhcnafhcaaGreat
open Go.RowKit Go.Sort Go.Shelf

theorem word_call {s : ByteArray} {r : Bool} {w : World} (hs : s.size ≤ maxLen) (h : wordB s = r) : Calls Tryz.prog 68 #[.string s] w fun e w' => e = .returned (.bool r) ∧ w' = w := by rw [← h]; exact word_any hs
theorem colW_word {m : Int} {c : Cl} (h : wordB c.nm = false) : colW m c = false := by simp [colW, h]
theorem colW_low {m : Int} {c : Cl} (h : c.kd < 1) : colW m c = false := by
  have : decide (1 ≤ c.kd) = false := by rw [decide_eq_false_iff_not]; omega
  simp [colW, this]
theorem colW_high {m : Int} {c : Cl} (h : m < c.kd) : colW m c = false := by
  have : decide (c.kd ≤ m) = false := by rw [decide_eq_false_iff_not]; omega
  simp [colW, this]
theorem colW_yes {m : Int} {c : Cl} (h : wordB c.nm = true) (h1 : ¬ c.kd < 1) (h2 : ¬ m < c.kd) : colW m c = true := by
  have e1 : decide (1 ≤ c.kd) = true := by rw [decide_eq_true_eq]; omega
  have e2 : decide (c.kd ≤ m) = true := by rw [decide_eq_true_eq]; omega
  simp [colW, h, e1, e2]
set_option maxHeartbeats 400000 in
theorem wrongP (m : Int) (B : Nat) (w : World) (hB : w.cell? ⟨B, 0, none⟩ = some (.int .i64 m)) :
    PredBelow Tryz.prog 97 #[.pointer (some ⟨B, 0, none⟩)] (fun x : Cl => .agg x.cells.toArray) (fun x => !colW m x) w := fun W x hb => by
  have hBl : B < w.heap.size := block_lt_of_cell hB
  have hc : W.cell? ⟨B, 0, none⟩ = some (.int .i64 m) := (hb.cell (p := ⟨B, 0, none⟩) hBl).trans hB
  have hne : B ≠ W.heap.size := by have := hb.size; omega
  have hbl : B < W.heap.size := by have := hb.size; omega
  have HS := hid x.small
  show Calls Tryz.prog 97 #[.agg #[.string x.nm, .int .i64 x.kd], .pointer (some ⟨B, 0, none⟩)] W fun e w' => e = .returned (.bool (!colW m x)) ∧ Below w.heap.size w w'
  generalize hr : (!colW m x) = r
  have HR := hid hr
  clear hr
  cases hw : wordB x.nm with
  | false =>
    go_enter Tryz.func97, Tryz.ntmps97
    go_wp2_with (go_at_call 68; refine (word_call HS.out hw).mono ?_; rintro e w' ⟨rfl, rfl⟩)
    go_ret
    exact ⟨ret_bool (by rw [← HR.out, colW_word hw]; rfl), hb.alloc hb.size _⟩
  | true =>
    by_cases h1 : x.kd < 1
    · go_enter Tryz.func97, Tryz.ntmps97
      go_wp2_with (go_at_call 68; refine (word_call HS.out hw).mono ?_; rintro e w' ⟨rfl, rfl⟩)
      go_ret
      exact ⟨ret_bool (by rw [← HR.out, colW_low h1]; rfl), hb.alloc hb.size _⟩
    · by_cases h2 : m < x.kd
      · go_enter Tryz.func97, Tryz.ntmps97
        go_wp2_with (go_at_call 68; refine (word_call HS.out hw).mono ?_; rintro e w' ⟨rfl, rfl⟩)
        go_ret
        exact ⟨ret_bool (by rw [← HR.out, colW_high h2]; rfl), hb.alloc hb.size _⟩
      · go_enter Tryz.func97, Tryz.ntmps97
        go_wp2_with (go_at_call 68; refine (word_call HS.out hw).mono ?_; rintro e w' ⟨rfl, rfl⟩)
        go_ret
        exact ⟨ret_bool (by rw [← HR.out, colW_yes hw (by omega) (by omega)]; simp; omega), hb.alloc hb.size _⟩
theorem any_not {α : Type} (p : α → Bool) (l : List α) : (!l.any fun x => !p x) = l.all p := by
  induction l with
  | nil => rfl
  | cons a l ih => rw [List.any_cons, List.all_cons, ← ih]; cases p a <;> simp
theorem kinds_no {cs : List Cl} {m : Int} (h : ¬ (1 ≤ cs.length ∧ cs.length ≤ 4)) : kindsB cs m = false := by simp only [kindsB, decide_eq_false h, Bool.false_and]
set_option maxHeartbeats 400000 in
theorem colsMay_any {v : Value} {cs : List Cl} {m : Int} {w : World} (hv : ColsAt w v cs) :
    Calls Tryz.prog 69 #[v, .int .i64 4, .int .i64 m] w fun e w' => e = .returned (.bool (kindsB cs m)) ∧ Below w.heap.size w w' := by
  obtain ⟨p, cap, rfl, hcap, hmax, hx⟩ := hv
  unfold maxLen at hmax
  generalize hr : kindsB cs m = r
  have HR := hid hr
  clear hr
  by_cases h1 : cs.length < 1
  · have g1 : (cs.length : Int) < 1 := by omega
    clear hx
    go_enter Tryz.func69, Tryz.ntmps69
    go_wp2
    go_ret
    exact ⟨ret_bool ((kinds_no (by omega)).symm.trans HR.out), (Below.refl _ w).alloc (Nat.le_refl _) _⟩
  · have g1 : ¬ (cs.length : Int) < 1 := by omega
    by_cases h2 : 4 < cs.length
    · have g2 : (4 : Int) < (cs.length : Int) := by omega
      clear hx
      go_enter Tryz.func69, Tryz.ntmps69
      go_wp2
      go_ret
      exact ⟨ret_bool ((kinds_no (by omega)).symm.trans HR.out), (Below.refl _ w).alloc (Nat.le_refl _) _⟩
    · have g2 : ¬ (4 : Int) < (cs.length : Int) := by omega
      obtain ⟨b, o, rfl, -, hj⟩ := hx (by intro e; subst e; simp at h1)
      have hb0 : b < w.heap.size := block_lt_of_cell (hj 0 _ (get!_some (by omega)) 0 _ rfl)
      have eg : ∀ args w, (callFunc 97 args).run Tryz.prog w = .ok (.enter 97 args) w := enters_of Tryz.func97 (by kernel_rfl) rfl
      have h := AnyQ.slices_ContainsFunc Tryz.containsC 2 Tryz.isAgg90 Tryz.sizeOf90 Cl.cells (fun _ => rfl) (fun x => !colW m x) 97 #[.pointer (some ⟨w.heap.size, 0, none⟩)] eg b o cs.length cap cs (w.alloc (.cells #[.int .i64 m] 3)) (wrongP m w.heap.size _ (by simp)) (Nat.le_refl _) hmax (by simp; omega) (fun j hjl i u hu => Lib.cell?_alloc_some _ (hj j _ (get!_some hjl) i u hu))
      rw [List.take_length] at h
      have HC := hid h
      have HK : Hid ((!cs.any fun x => !colW m x) = r) := by
        show (!cs.any fun x => !colW m x) = r
        rw [any_not, ← HR.out, kindsB, decide_eq_true (by omega)]; rfl
      clear h hj eg
      generalize (cs.any fun x => !colW m x) = q at HC HK
      generalize cs.length = n at *
      go_enter Tryz.func69, Tryz.ntmps69
      go_wp2_with (go_at_call 98; refine HC.out.mono ?_; rintro e w' ⟨rfl, hb'⟩)
      go_ret
      exact ⟨ret_bool HK.out, below_on ((Below.refl _ w).alloc (Nat.le_refl _) _) hb'⟩
theorem colsMay_is {v : Value} {cs : List Cl} {m : Int} {r : Bool} {w : World} (hv : ColsAt w v cs) (h : kindsB cs m = r) :
    Calls Tryz.prog 69 #[v, .int .i64 4, .int .i64 m] w fun e w' => e = .returned (.bool r) ∧ Below w.heap.size w w' := by rw [← h]; exact colsMay_any hv
end Go.Proofs.YtlbjbkhcnafhcaaGreat
