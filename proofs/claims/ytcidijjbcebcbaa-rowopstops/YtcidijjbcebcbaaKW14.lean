/-
  Top's step, walked.
  What table.pick returns, for values and for columns.
  What table.placesOf returns, for all names and columns.
  What Top tells.
  An append onto a row of one's own, within a region that is walked in order.
  Two rows of rows in canonical order, merged: the canonical order of both.
  What table.Same returns, for every two tables.
-/
import Derived.Test.YtcidijjbcebcbaaKW02
import Derived.Test.YtcidijjbcebcbaaKW05
import Derived.Test.YtcidijjbcebcbaaKW13
import Derived.Laws.IdiomCopy
import Derived.Laws.EntriesVeiled
namespace Go.Proofs.Ytcidijjbcebcbaa.RO
open Go.RowKit Go.Joins Go.Sort

theorem headsLow {Q : Nat → Prop} {w : World} {hs : List Value} {rs : List TN.Rw} (h : TN.HeadsIn Q w hs rs) : TN.HeadsIn (fun b => Q b ∧ b < w.heap.size) w hs rs := ⟨h.1, fun j x r h1 h2 => TN.SlAt.lt (fun _ => rfl) (by decide) (h.2 j x r h1 h2)⟩
theorem headsKp {Q T : Nat → Prop} {w w' : World} {hs : List Value} {rs : List TN.Rw} (h : TN.HeadsIn Q w hs rs) (hk : Kp T w w') (ht : ∀ b, Q b → ¬ T b) : TN.HeadsIn Q w' hs rs := ⟨h.1, fun j x r h1 h2 => rowKp (h.2 j x r h1 h2) hk ht⟩
theorem colsKp {cs : List TN.Cl} {Q T : Nat → Prop} {w w' : World} {v : Value} (h : TN.SlAt Q TN.Cl.cells 2 w v cs) (hk : Kp T w w') (ht : ∀ b, Q b → ¬ T b) : TN.SlAt Q TN.Cl.cells 2 w' v cs := by
  obtain ⟨p, cap, hv, hc, hm, hx⟩ := h
  exact ⟨p, cap, hv, hc, hm, fun hne => let ⟨b, o, hp, hQ, hj⟩ := hx hne; ⟨b, o, hp, hQ, fun j x hjx i u hu => hk.cell (hj j x hjx i u hu) (ht b hQ.1)⟩⟩
set_option maxRecDepth 100000 in
set_option maxHeartbeats 4000000 in
theorem top1_any {c rv : Value} {cs : List TN.Cl} {rs : List TN.Rw} {bt bp bn p n : Nat} {w : World} (ht : TN.TabAt w (.agg #[c, rv]) cs rs) (h0 : w.cell? ⟨bt, 0, none⟩ = some c) (h1 : w.cell? ⟨bt, 1, none⟩ = some rv) (hp : w.cell? ⟨bp, 0, none⟩ = some (.int .i64 (p : Int))) (hn : w.cell? ⟨bn, 0, none⟩ = some (.int .i64 (n : Int))) (hpr : ∀ r ∈ rs, p < r.length ∧ r.length ≤ 1000000) (hrl : rs.length ≤ 1000000) : Calls Try.prog 59 #[.pointer (some ⟨bt, 0, none⟩), .pointer (some ⟨bp, 0, none⟩), .pointer (some ⟨bn, 0, none⟩)] w fun e w' => ∃ v', e = .returned v' ∧ TN.TabAt w' v' cs ((topL p rs).take n) ∧ Below w.heap.size w w' := by
  obtain ⟨c', rv', e, hc, hs, hr, hh⟩ := ht
  cases e
  have HT := hid (show TN.TabAt w (.agg #[c, rv]) cs rs from ⟨c, rv, rfl, hc, hs, hr, hh⟩)
  obtain ⟨pc, cc, rfl, -⟩ := id hc
  obtain ⟨pr, cr, rfl, -⟩ := id hr
  clear hc hr hh
  have HP := hid hp
  have HN := hid hn
  have HPR := hid hpr
  have btl := block_lt_of_cell h0
  have bpl := block_lt_of_cell hp
  have bnl := block_lt_of_cell hn
  simp only at btl bpl bnl
  obtain ⟨O0, hO0⟩ : ∃ O, O = Obj.cells #[.slice none 0 0, .slice none 0 0] 28 (0, 0) := ⟨_, rfl⟩
  have HB := hid ((Below.refl w.heap.size w).alloc (Nat.le_refl _) O0)
  have K0 := hid (alloc_block w O0)
  obtain ⟨W, hW⟩ : ∃ W, W = w.alloc O0 := ⟨_, rfl⟩
  rw [← hW] at HB K0
  rw [hO0] at K0
  have HW := hid hW
  rw [hO0] at HW
  have q0 : W.cell? ⟨bt, 0, none⟩ = _ := (HB.out.cell (p := ⟨bt, 0, none⟩) btl).trans h0
  have q1 : W.cell? ⟨bt, 1, none⟩ = _ := (HB.out.cell (p := ⟨bt, 1, none⟩) btl).trans h1
  have lW := lt_of_block K0.out
  clear hW hO0 hp hn h0 h1 hpr
  generalize cs.length = nc at *
  generalize hs.length = nr at *
  go_enter Try.func59, Try.ntmps59
  go_upto_region 1 with fail
  rw [← HW.out]
  clear HW
  go_upto_region 2 with (first | (go_at_call 60; refine (TN.canon_w (HT.out.on HB.out)).mono ?_; rintro e w1 ⟨v1, rfl, ht1, hb1⟩; have HT1 := hid ht1; have HB1 := hid hb1; obtain ⟨pc1, cc1, b1, rfl⟩ := ht1.form; clear ht1 hb1))
  obtain ⟨c1, B1, hs1, e1, hC1, hB1, hsz, hblk, hhd⟩ := HT1.out
  cases e1
  have hlr : (TN.sortR rs).length ≤ 1000000 := by rw [TN.sortR_length]; exact hrl
  have hl1 : hs1.length = (TN.sortR rs).length := hhd.1
  have hS := TN.sortR_up rs
  have hpS : ∀ r ∈ TN.sortR rs, p < r.length ∧ r.length ≤ 1000000 := fun r hr => HPR.out r ((TN.sortR_perm rs).mem_iff.1 hr)
  have hTop : topL p (TN.sortR rs) = topL p rs := topL_perm_eq (TN.sortR_perm rs)
  have hb1 := HB1.out.size
  have hB1l : b1 < w1.heap.size := lt_of_block hblk
  generalize TN.sortR rs = S at *
  generalize hk : S.length = k at *
  have kI : (k : Int) ≤ 1000000 := by omega
  have hbW : Below w1.heap.size w1 (w1.alloc (.cells #[.slice pc1 cs.length cc1, .slice (some ⟨b1, 0, none⟩) k k] 28)) := (Below.refl _ _).alloc (Nat.le_refl _) _
  have K4 := hid (alloc_block w1 (.cells #[.slice pc1 cs.length cc1, .slice (some ⟨b1, 0, none⟩) k k] 28))
  have HBk := hid (block_on hblk hbW)
  have HHd := hid (hhd.on hbW)
  have HH2 := hid ((headsLow hhd).on hbW)
  have HC1 := hid (hC1.on hbW)
  have K00 := hid (block_on (block_on K0.out HB1.out) hbW)
  have HB2 := hid (TN.below_on (TN.below_on HB.out HB1.out) hbW)
  obtain ⟨bq, hbq⟩ : ∃ b, b = w1.heap.size := ⟨_, rfl⟩
  have HBQ := hid hbq
  rw [← hbq] at hbW K4 hB1l HH2
  rw [← hbq]
  generalize w1.alloc (.cells #[.slice pc1 cs.length cc1, .slice (some ⟨b1, 0, none⟩) k k] 28) = W2 at *
  have hpc : W2.cell? ⟨bp, 0, none⟩ = some (.int .i64 (p : Int)) := (HB2.out.cell (p := ⟨bp, 0, none⟩) bpl).trans HP.out
  have hnc : W2.cell? ⟨bn, 0, none⟩ = some (.int .i64 (n : Int)) := (HB2.out.cell (p := ⟨bn, 0, none⟩) bnl).trans HN.out
  have HSS := hid (SS.sortStable_any (cap := k) (sls_of HHd.out) enters_top11 (cAt_cm p S) (hk ▸ cp_of HHd.out hpS hpc (by omega)) (rf_start HBk.out hl1) hlr)
  have y4 := block_cell K4.out
  have HSu := hid hS
  have HTop := hid hTop
  have HKk := hid hk
  have HNC := hid hnc
  have HL1 := hid hl1
  clear HT1 hbq hblk hhd hC1 hS hpS hTop hk hpc hnc hl1 HPR HP HN q0 q1
  go_upto_region 3 with (first | (go_at_call 61; refine HSS.out.mono ?_; rintro e w3 ⟨rfl, ⟨g, r1, r2, r3⟩, hk3⟩; have HR1 := hid r1; have HR2 := hid r2; have HR3 := hid r3; have HK3 := hid hk3; clear r1 r2 r3 hk3))
  have hW2s := HB2.out.size
  have K5 := hid (HK3.out.blk K4.out (fun e => by have e' : bq = b1 := e; omega))
  have K01 := hid (HK3.out.blk K00.out (fun e => by have e' : w.heap.size = b1 := e; omega))
  have y5 := block_cell K5.out
  have x5 := block_frozen K5.out
  have yn : w3.cell? ⟨bn, 0, none⟩ = some (.int .i64 (n : Int)) := HK3.out.cell HNC.out (fun e => by have e' : bn = b1 := e; omega)
  clear y4
  obtain ⟨m, hm⟩ : ∃ m, m = min n k := ⟨_, rfl⟩
  have hmI : min (n : Int) (k : Int) = (m : Int) := by omega
  have mkI : (m : Int) ≤ k := by omega
  have HMm := hid hm
  clear hm
  go_upto_region 4 with fail
  have K6 := hid (block_set K5.out 1 (.slice (some ⟨b1, 0, none⟩) m k))
  have K7 := hid (show (w3.setCell ⟨bq, 1, none⟩ (.slice (some ⟨b1, 0, none⟩) m k)).heap[w.heap.size]? = _ from (Kp.set (T := fun b => b = bq) (w := w3) (i := 1) rfl (.slice (some ⟨b1, 0, none⟩) m k)).blk K01.out (fun e => by have e' : w.heap.size = bq := e; omega))
  have HK6 : Hid (Kp (fun b => b = bq) w3 (w3.setCell ⟨bq, 1, none⟩ (.slice (some ⟨b1, 0, none⟩) m k))) := Kp.set (T := fun b => b = bq) rfl _
  clear y5 x5 yn
  generalize w3.setCell ⟨bq, 1, none⟩ (.slice (some ⟨b1, 0, none⟩) m k) = w4 at *
  have y6 := block_cell K6.out
  have y7 := block_cell K7.out
  have x7 := block_frozen K7.out
  go_wp2
  have HK8 : Hid (Kp (fun b => b = w.heap.size) w4 ((w4.setCell ⟨w.heap.size, 0, none⟩ (.slice pc1 cs.length cc1)).setCell ⟨w.heap.size, 1, none⟩ (.slice (some ⟨b1, 0, none⟩) m k))) := (Kp.set (T := fun b => b = w.heap.size) rfl _).trans (Kp.set (T := fun b => b = w.heap.size) rfl _)
  have KF := block_set (block_set K7.out 0 (.slice pc1 cs.length cc1)) 1 (.slice (some ⟨b1, 0, none⟩) m k)
  clear y6 y7 x7
  generalize ((w4.setCell ⟨w.heap.size, 0, none⟩ (.slice pc1 cs.length cc1)).setCell ⟨w.heap.size, 1, none⟩ (.slice (some ⟨b1, 0, none⟩) m k)) = WF at *
  have hkall : Kp (fun b => b = b1 ∨ b = bq ∨ b = w.heap.size) W2 WF := ((HK3.out.imp (fun _ _ e => Or.inl e)).trans (HK6.out.imp (fun _ _ e => Or.inr (Or.inl e)))).trans (HK8.out.imp (fun _ _ e => Or.inr (Or.inr e)))
  refine bodyPost_ret (v := .agg #[.slice pc1 cs.length cc1, .slice (some ⟨b1, 0, none⟩) m k]) ?hv rfl ⟨_, rfl, ?ht, ?hb⟩
  case hv =>
    have kcf := block_cell KF
    clear KF
    simp [results, Try.results59, go_sem, kcf]
  case hb => exact HB2.out.trans (hkall.below hW2s (fun b e => by rcases e with e | e | e <;> omega))
  case ht =>
    refine ⟨_, _, rfl, ?_, ?_⟩
    · refine (colsKp HC1.out hkall (fun b hb e => ?_)).imp (fun _ _ => trivial)
      have hb1 := hb.1
      rcases e with e | e | e
      · have := hb.2; omega
      · have := hb.2; omega
      · omega
    · have hRf : SS.Rf (TN.encH hs1) b1 k g WF := (HR1.out.kp HK6.out (fun e => by have e' : b1 = bq := e; omega)).kp HK8.out (fun e => by have e' : b1 = w.heap.size := e; omega)
      have hhF : TN.HeadsIn (fun b => b1 < b ∧ b < bq) WF hs1 S := headsKp HH2.out hkall (fun b hb e => by have h1 := hb.1; have h2 := hb.2; omega)
      have := rf_tab HSu.out hhF hRf HKk.out HR2.out HR3.out (m := m) (by omega) hsz
      rw [HTop.out] at this
      have e : (topL p rs).take m = (topL p rs).take n := by
        have hl : (topL p rs).length = k := by rw [← HTop.out, topL_length]; exact HKk.out
        by_cases hnk : n ≤ k
        · rw [show m = n by omega]
        · rw [show m = k by omega, List.take_of_length_le (by omega), List.take_of_length_le (by omega)]
      rwa [e] at this
end Go.Proofs.Ytcidijjbcebcbaa.RO
namespace Go.Proofs.Ytcidijjbcebcbaa.TN
open Go.RowKit Go.Sort Go.Shelf

def encN (n : Nat) : List Value := [.int .i64 (n : Int)]
theorem take_map_snoc_gen {β : Type} {ps : List Nat} {f : Nat → β} {k : Nat} (h : k < ps.length) : (ps.take (k + 1)).map f = (ps.take k).map f ++ [f ps[k]!] := by
  have e : ps[k]! = ps[k] := by rw [List.getElem!_eq_getElem?_getD, List.getElem?_eq_getElem h]; rfl
  rw [List.take_succ_eq_append_getElem h, List.map_append, e]; rfl
/- A block of m elements of k cells, whose first ones are these. -/
structure Filled {α : Type} (enc : α → List Value) (k B m : Nat) (xs : List α) (w : World) : Prop where
  lt : B < w.heap.size
  cell : ∀ i, i < m * k → ∃ y, w.cell? ⟨B, i, none⟩ = some y
  frozen : ∀ i, w.frozen? ⟨B, i, none⟩ = false
  held : ∀ (j : Nat) x, xs[j]? = some x → CellsAt w B (j * k) (enc x)
theorem Filled.start {α : Type} (enc : α → List Value) (k m e : Nat) (w : World) {C : Array Value} (hc : C.size = m * k) : Filled enc k w.heap.size m ([] : List α) (w.alloc (.cells C e)) := by
  have hb := alloc_block w (.cells C e)
  refine ⟨by simp, fun i hi => ⟨C[i]'(by omega), ?_⟩, fun i => frozen_no hb i, fun j x h => by simp at h⟩
  rw [block_cell hb]; exact Array.getElem?_eq_getElem _
theorem frozen_sets (b : Nat) : ∀ (vs : List Value) (o : Nat) (w : World) (a : Addr), (w.setCells b o vs).frozen? a = w.frozen? a
  | [], _, _, _ => rfl
  | v :: vs, o, w, a => by rw [World.setCells, frozen_sets b vs]; simp
theorem below_sets {B : Nat} {w w' : World} {R : Nat} (h : Below B w w') (hR : B ≤ R) : ∀ (vs : List Value) (o : Nat), Below B w (w'.setCells R o vs)
  | [], _ => h
  | v :: vs, o => by rw [World.setCells]; exact below_sets (below_set h hR) hR vs (o + 1)
theorem size_sets (b : Nat) : ∀ (vs : List Value) (o : Nat) (w : World), (w.setCells b o vs).heap.size = w.heap.size
  | [], _, _ => rfl
  | v :: vs, o, w => by rw [World.setCells, size_sets b vs, World.size_setCell]
theorem Filled.put {α : Type} {enc : α → List Value} {k B m : Nat} {xs : List α} {w : World} {x : α} (h : Filled enc k B m xs w) (hk : ∀ x, (enc x).length = k) (hkm : (xs.length + 1) * k ≤ m * k) : Filled enc k B m (xs ++ [x]) (w.setCells B (xs.length * k) (enc x)) := by
  have hin := World.cell?_setCells_in B (enc x) (xs.length * k) w (fun j hj => by
    rw [hk] at hj
    obtain ⟨y, hy⟩ := h.cell (xs.length * k + j) (by rw [Nat.succ_mul] at hkm; omega)
    rw [hy]; rfl)
  have hout := fun a => World.cell?_setCells_out B (enc x) (xs.length * k) w a
  refine ⟨by rw [size_sets]; exact h.lt, fun i hi => ?_, fun i => by rw [frozen_sets]; exact h.frozen i, fun j y hy i u hu => ?_⟩
  · by_cases hc : i < xs.length * k ∨ xs.length * k + (enc x).length ≤ i
    · obtain ⟨y, hy⟩ := h.cell i hi
      exact ⟨y, (hout ⟨B, i, none⟩ (fun _ _ => hc)).trans hy⟩
    · have hj : i - xs.length * k < (enc x).length := by omega
      have := hin (i - xs.length * k) hj
      rw [show xs.length * k + (i - xs.length * k) = i from by omega] at this
      exact ⟨_, this⟩
  · have hiu : i < k := by
      have := (List.getElem?_eq_some_iff.1 hu).1
      rwa [hk] at this
    by_cases hj : j < xs.length
    · rw [List.getElem?_append_left hj] at hy
      have h1 := h.held j y hy i u hu
      have h2 : j * k + i < xs.length * k := by
        have : (j + 1) * k ≤ xs.length * k := Nat.mul_le_mul_right k hj
        rw [Nat.succ_mul] at this; omega
      exact (hout ⟨B, j * k + i, none⟩ (fun _ _ => Or.inl h2)).trans h1
    · rw [List.getElem?_append_right (by omega)] at hy
      cases hd : j - xs.length with
      | succ d => rw [hd] at hy; simp at hy
      | zero =>
        rw [hd] at hy
        simp at hy
        subst hy
        have hje : j = xs.length := by omega
        subst hje
        have hlt := (List.getElem?_eq_some_iff.1 hu).1
        have := hin i hlt
        rw [this, (List.getElem?_eq_some_iff.1 hu).2]
theorem Filled.sl {α : Type} {enc : α → List Value} {k B m : Nat} {xs : List α} {w : World} (h : Filled enc k B m xs w) (hl : xs.length = m) (hm : m ≤ 4096) : SlAt (fun b => B ≤ b) enc k w (.slice (some ⟨B, 0, none⟩) m m) xs := by
  refine ⟨some ⟨B, 0, none⟩, m, by rw [hl], ⟨by omega, fun e => by cases e⟩, by unfold maxLen; omega, fun _ => ⟨B, 0, rfl, ⟨Nat.le_refl _, by unfold bsz; split <;> omega⟩, fun j x hj => ?_⟩⟩
  rw [Nat.zero_add]; exact h.held j x hj

theorem make_pickV (n : Nat) (hn : n ≤ 4096) (W : World) : (Instr.makeSlice 33 (.int .i64 (n : Int)) (.int .i64 (n : Int))).run Try.prog W = .ok (.slice (some ⟨W.heap.size, 0, none⟩) n n) (W.alloc (.cells (madeCells (V 0 0 ⟨#[]⟩ 0 0 0 0 0 0 0 0).cells (n * 11)) 39)) := by
  obtain ⟨i, hi, h0, h1, h2⟩ := info_parts info48
  have h := run_make W 33 39 i _ Try.underlying33 hi h0 .i64 .i64 (n : Int) (n : Int) (by omega) (Int.le_refl _) (by rw [h2]; omega) (by omega)
  rw [h, h1, Int.toNat_natCast]
theorem make_pickC (n : Nat) (hn : n ≤ 4096) (W : World) : (Instr.makeSlice 25 (.int .i64 (n : Int)) (.int .i64 (n : Int))).run Try.prog W = .ok (.slice (some ⟨W.heap.size, 0, none⟩) n n) (W.alloc (.cells (madeCells (Value.agg #[.string ⟨#[]⟩, .int .i64 0]).cells (n * 2)) 61)) := by
  obtain ⟨i, hi, h0, h1, h2⟩ := info_parts info45
  have h := run_make W 25 61 i _ Try.underlying25 hi h0 .i64 .i64 (n : Int) (n : Int) (by omega) (Int.le_refl _) (by rw [h2]; omega) (by omega)
  rw [h, h1, Int.toNat_natCast]
end Go.Proofs.Ytcidijjbcebcbaa.TN
namespace Go.Proofs.Ytcidijjbcebcbaa.TN
open Go.RowKit Go.Sort Go.Shelf

def encS (s : ByteArray) : List Value := [.string s]
abbrev NamesAt (w : World) (v : Value) (ns : List ByteArray) : Prop := SlAt any encS 1 w v ns
def places (cs : List Cl) : List ByteArray → List Nat → List Nat
  | [], acc => acc
  | nm :: r, acc => if findC cs nm < 0 ∨ (findC cs nm).toNat ∈ acc then [] else places cs r (acc ++ [(findC cs nm).toNat])
theorem places_step {cs : List Cl} {ns : List ByteArray} {acc : List Nat} {k : Nat} (h : k < ns.length) : places cs (ns.drop k) acc = if findC cs ns[k]! < 0 ∨ (findC cs ns[k]!).toNat ∈ acc then [] else places cs (ns.drop (k + 1)) (acc ++ [(findC cs ns[k]!).toNat]) := by
  have e : ns[k]! = ns[k] := by rw [List.getElem!_eq_getElem?_getD, List.getElem?_eq_getElem h]; rfl
  rw [List.drop_eq_getElem_cons h, e]; rfl
theorem findC_lt (cs : List Cl) (nm : ByteArray) : findC cs nm < cs.length := by
  have gen : ∀ (l : List Cl) (i : Nat), Lib.idxByFrom (fun _ y => isNm nm y) default l i < (i : Int) + l.length := by
    intro l
    induction l with
    | nil => intro i; simp [Lib.idxByFrom]; omega
    | cons c r ih =>
      intro i
      have := ih (i + 1)
      simp only [Lib.idxByFrom, List.length_cons]
      split <;> omega
  have := gen cs 0
  simpa [findC, Lib.idxBy] using this
theorem find_is {v : Value} {cs : List Cl} {nm : ByteArray} {w : World} {f : Int} (hv : ColsAt w v cs) (h : findC cs nm = f) :
    Calls Try.prog 57 #[v, .string nm] w fun e w' => e = .returned (.int .i64 f) ∧ Below w.heap.size w w' := by rw [← h]; exact find_any hv
theorem Own.on {α : Type} {enc : α → List Value} {k e B : Nat} {w w' : World} {v : Value} {xs : List α} (h : Own enc k e B w v xs) (hb : Below w.heap.size w w') : Own enc k e B w' v xs :=
  ⟨h.1, h.2.elim Or.inl (fun ⟨g, cap, cur, hv, hg, hblk, r⟩ => Or.inr ⟨g, cap, cur, hv, hg, block_on hblk hb, r⟩)⟩
theorem small1 {n : Nat} (h : n ≤ 4096) : n * bsz 1 ≤ 140737488355328 := by
  have e : bsz 1 = 24 := rfl
  rw [e]; omega
theorem lit_sl {α : Type} {enc : α → List Value} {k : Nat} {w : World} {B n cap : Nat} {C : Array Value} {e : TypeId} {xs : List α} (hb : w.heap[B]? = some (.cells C e (0, 0))) (hk : ∀ x, (enc x).length = k) (hC : C.toList = xs.flatMap enc) (hn : n = xs.length) (hcap : n ≤ cap) (hl : xs.length ≤ 4096) : SlAt (fun b => b = B) enc k w (.slice (some ⟨B, 0, none⟩) n cap) xs := by
  subst hn
  refine ⟨some ⟨B, 0, none⟩, cap, rfl, ⟨hcap, fun e => by cases e⟩, by unfold maxLen; omega, fun _ => ⟨B, 0, rfl, ⟨rfl, by unfold bsz; split <;> omega⟩, fun j x hx i u hu => ?_⟩⟩
  have h := flat_get hk xs j x hx i u hu
  rw [block_cell hb, ← Array.getElem?_toList, hC, Nat.zero_add]; exact h
end Go.Proofs.Ytcidijjbcebcbaa.TN
namespace Go.Proofs.Ytcidijjbcebcbaa.RO
open Go.RowKit Go.Joins Go.Sort

theorem tabE_set {b : Bool} {w w2 w3 : World} {v x y : Value} {cs : List TN.Cl} {rs : List TN.Rw} {R : Nat} (h : TabE b w2 w3 v cs rs) (hR : R < w2.heap.size) (hw : w.heap.size ≤ w2.heap.size) : TabE b w ((w3.setCell ⟨R, 0, none⟩ x).setCell ⟨R, 1, none⟩ y) v cs rs :=
  (TN.TabIn.set (fun b hb => by have : w2.heap.size ≤ b := hb; omega) (TN.TabIn.set (fun b hb => by have : w2.heap.size ≤ b := hb; omega) h)).imp (fun b hb => by have : w2.heap.size ≤ b := hb; omega)
theorem tabE_form {b : Bool} {w w' : World} {v : Value} {cs : List TN.Cl} {rs : List TN.Rw} (h : TabE b w w' v cs rs) : ∃ pc nc cc pr nr cr, v = .agg #[.slice pc nc cc, .slice pr nr cr] := by
  obtain ⟨c, r, rfl, ⟨p, cap, rfl, -⟩, hs, ⟨q, cq, rfl, -⟩, -⟩ := h
  exact ⟨_, _, _, _, _, _, rfl⟩
theorem enters_top1 : ∀ args w, (callFunc 59 args).run Try.prog w = .ok (.enter 59 args) w := enters_of Try.func59 (by kernel_rfl) rfl
def kdOf (cs : List TN.Cl) (i : Int) : Int := (cs.getD i.toNat default).kd
def topB (cs : List TN.Cl) (n : Int) (nm : ByteArray) : Bool := decide (1 ≤ n ∧ n ≤ 1000 ∧ 0 ≤ TN.findC cs nm ∧ kdOf cs (TN.findC cs nm) ≠ 4)
set_option maxRecDepth 100000 in
set_option maxHeartbeats 4000000 in
theorem top_any {tv : Value} {cs : List TN.Cl} {rs : List TN.Rw} {n : Int} {nm : ByteArray} {w : World} (ht : TN.TabAt w tv cs rs) (hrl : rs.length ≤ 1000000) : Calls Try.prog 30 #[tv, .int .i64 n, .string nm] w fun e w' => ∃ v', e = .returned (.tuple #[v', .int .i64 (runE cs rs (topB cs n nm))]) ∧ TabE (okE cs rs (topB cs n nm)) w w' v' cs (topR (TN.findC cs nm).toNat n.toNat rs) ∧ Below w.heap.size w w' := by
  obtain ⟨c, rv, rfl, hc, hs, hr, hh⟩ := ht
  have HT := hid (show TN.TabAt w (.agg #[c, rv]) cs rs from ⟨c, rv, rfl, hc, hs, hr, hh⟩)
  have HC := hid hc
  obtain ⟨pc, cc, rfl, -⟩ := id hc
  obtain ⟨pr, cr, rfl, -⟩ := id hr
  clear hc hr hh
  generalize hncs : cs.length = nc at *
  generalize hs.length = nr at *
  have HNC := hid hncs
  obtain ⟨O0, hO0⟩ : ∃ O, O = Obj.cells #[.slice pc nc cc, .slice pr nr cr] 28 (0, 0) := ⟨_, rfl⟩
  obtain ⟨O1, hO1⟩ : ∃ O, O = Obj.cells #[.int .i64 n] 3 (0, 0) := ⟨_, rfl⟩
  obtain ⟨O2, hO2⟩ : ∃ O, O = Obj.cells #[.slice none 0 0, .slice none 0 0] 28 (0, 0) := ⟨_, rfl⟩
  have hb1 : Below w.heap.size w (w.alloc O0) := (Below.refl _ _).alloc (Nat.le_refl _) _
  have hb2 : Below w.heap.size w ((w.alloc O0).alloc O1) := hb1.alloc hb1.size _
  have hb3 : Below w.heap.size w (((w.alloc O0).alloc O1).alloc O2) := hb2.alloc hb2.size _
  have k0 := block_on (block_on (alloc_block w O0) ((Below.refl _ _).alloc (Nat.le_refl _) O1)) ((Below.refl _ _).alloc (Nat.le_refl _) O2)
  have k1 := block_on (TN.alloc_blk2 w O0 O1) ((Below.refl _ _).alloc (Nat.le_refl _) O2)
  have k2 : (((w.alloc O0).alloc O1).alloc O2).heap[w.heap.size + 1 + 1]? = some O2 := by have := alloc_block ((w.alloc O0).alloc O1) O2; simpa using this
  obtain ⟨W, hW⟩ : ∃ W, W = ((w.alloc O0).alloc O1).alloc O2 := ⟨_, rfl⟩
  rw [← hW] at hb3 k0 k1 k2
  rw [hO0] at k0
  rw [hO1] at k1
  rw [hO2] at k2
  have HW := hid hW
  rw [hO0, hO1, hO2] at HW
  have HB := hid hb3
  have K0 := hid k0
  have K1 := hid k1
  have K2 := hid k2
  have y0 := block_cell k0
  clear hW hO0 hO1 hO2 hb1 hb2 hb3 k0 k1 k2 hncs
  go_enter Try.func30, Try.ntmps30
  go_upto_region 1 with fail
  rw [← HW.out]
  clear HW
  go_upto_region 2 with (first | (go_at_call 57; refine (TN.find_any (HC.out.on HB.out)).mono ?_; rintro e w1 ⟨rfl, hb1⟩; have HB1 := hid hb1; clear hb1))
  have hb2 : Below w1.heap.size w1 (w1.alloc (.cells #[.int .i64 (TN.findC cs nm)] 3)) := (Below.refl _ _).alloc (Nat.le_refl _) _
  have k3 := alloc_block w1 (.cells #[.int .i64 (TN.findC cs nm)] 3)
  have HB2 := hid (TN.below_on (TN.below_on HB.out HB1.out) hb2)
  have K02 := hid (block_on (block_on K0.out HB1.out) hb2)
  have K12 := hid (block_on (block_on K1.out HB1.out) hb2)
  have K22 := hid (block_on (block_on K2.out HB1.out) hb2)
  have K32 := hid k3
  have hR2 := lt_of_block K22.out
  have hW2 := HB2.out.size
  obtain ⟨ba, hba⟩ : ∃ b, b = w1.heap.size := ⟨_, rfl⟩
  rw [← hba] at hb2 k3 K32
  rw [← hba]
  have HZl := hid (TN.findC_lt cs nm)
  generalize w1.alloc (.cells #[.int .i64 (TN.findC cs nm)] 3) = w2 at *
  have HTB2 : Hid (topB cs n nm = decide (1 ≤ n ∧ n ≤ 1000 ∧ 0 ≤ TN.findC cs nm ∧ kdOf cs (TN.findC cs nm) ≠ 4)) := rfl
  generalize hz : TN.findC cs nm = z at *
  have HZE := hid hz
  have y02 := block_cell K02.out
  have y12 := block_cell K12.out
  have y32 := block_cell K32.out
  have HCo := hid (HC.out.on HB2.out)
  clear y0 hb2 k3 hba hz
  by_cases c1 : 1 ≤ n
  case neg =>
    have d1 : decide (1 ≤ n) = false := decide_eq_false c1
    have hB : topB cs n nm = false := by rw [HTB2.out]; exact decide_eq_false (fun h => c1 h.1)
    have HRn := hid (run_any (mb := false) (cs' := cs) (rs' := (topL z.toNat rs).take n.toNat) (cb := #[.pointer (some ⟨w.heap.size, 0, none⟩), .pointer (some ⟨ba, 0, none⟩), .pointer (some ⟨w.heap.size + 1, 0, none⟩)]) (g := 59) (HT.out.on HB2.out) enters_top1 (fun h => by cases h))
    have HBB := hid hB
    clear hB
    go_wp2_with (first | (go_at_call 58; refine HRn.out.mono ?_; rintro e w3 ⟨v3, rfl, ht3, hb3⟩; have HT3 := hid ht3; have HB3 := hid hb3; have K23 := hid (block_on K22.out hb3); have y23 := block_cell K23.out; have x23 := block_frozen K23.out; obtain ⟨pc3, n3, cc3, pr3, m3, cr3, rfl⟩ := tabE_form ht3; clear ht3 hb3))
    refine bodyPost_ret (v := .tuple #[.agg #[.slice pc3 n3 cc3, .slice pr3 m3 cr3], .int .i64 (runE cs rs false)]) ?hv1 rfl ⟨_, by rw [HBB.out], by rw [HBB.out, HZE.out]; exact tabE_set HT3.out hR2 hW2, TN.below_set (TN.below_set (TN.below_on HB2.out HB3.out) (by omega)) (by omega)⟩
    case hv1 =>
      have KF := block_set (block_set K23.out 0 (.slice pc3 n3 cc3)) 1 (.slice pr3 m3 cr3)
      clear y23 x23
      generalize ((w3.setCell ⟨w.heap.size + 1 + 1, 0, none⟩ (.slice pc3 n3 cc3)).setCell ⟨w.heap.size + 1 + 1, 1, none⟩ (.slice pr3 m3 cr3)) = WF at KF ⊢
      have kcf := block_cell KF
      clear KF
      simp [results, Try.results30, go_sem, kcf]
  by_cases c2 : n ≤ 1000
  case neg =>
    have d1 : decide (1 ≤ n) = true := decide_eq_true c1
    have d2 : decide (n ≤ 1000) = false := decide_eq_false c2
    have hB : topB cs n nm = false := by rw [HTB2.out]; exact decide_eq_false (fun h => c2 h.2.1)
    have HRn := hid (run_any (mb := false) (cs' := cs) (rs' := (topL z.toNat rs).take n.toNat) (cb := #[.pointer (some ⟨w.heap.size, 0, none⟩), .pointer (some ⟨ba, 0, none⟩), .pointer (some ⟨w.heap.size + 1, 0, none⟩)]) (g := 59) (HT.out.on HB2.out) enters_top1 (fun h => by cases h))
    have HBB := hid hB
    clear hB
    go_wp2_with (first | (go_at_call 58; refine HRn.out.mono ?_; rintro e w3 ⟨v3, rfl, ht3, hb3⟩; have HT3 := hid ht3; have HB3 := hid hb3; have K23 := hid (block_on K22.out hb3); have y23 := block_cell K23.out; have x23 := block_frozen K23.out; obtain ⟨pc3, n3, cc3, pr3, m3, cr3, rfl⟩ := tabE_form ht3; clear ht3 hb3))
    refine bodyPost_ret (v := .tuple #[.agg #[.slice pc3 n3 cc3, .slice pr3 m3 cr3], .int .i64 (runE cs rs false)]) ?hv2 rfl ⟨_, by rw [HBB.out], by rw [HBB.out, HZE.out]; exact tabE_set HT3.out hR2 hW2, TN.below_set (TN.below_set (TN.below_on HB2.out HB3.out) (by omega)) (by omega)⟩
    case hv2 =>
      have KF := block_set (block_set K23.out 0 (.slice pc3 n3 cc3)) 1 (.slice pr3 m3 cr3)
      clear y23 x23
      generalize ((w3.setCell ⟨w.heap.size + 1 + 1, 0, none⟩ (.slice pc3 n3 cc3)).setCell ⟨w.heap.size + 1 + 1, 1, none⟩ (.slice pr3 m3 cr3)) = WF at KF ⊢
      have kcf := block_cell KF
      clear KF
      simp [results, Try.results30, go_sem, kcf]
  by_cases c3 : 0 ≤ z
  case neg =>
    have d1 : decide (1 ≤ n) = true := decide_eq_true c1
    have d2 : decide (n ≤ 1000) = true := decide_eq_true c2
    have d3 : decide (0 ≤ z) = false := decide_eq_false c3
    have hB : topB cs n nm = false := by rw [HTB2.out]; exact decide_eq_false (fun h => c3 h.2.2.1)
    have HRn := hid (run_any (mb := false) (cs' := cs) (rs' := (topL z.toNat rs).take n.toNat) (cb := #[.pointer (some ⟨w.heap.size, 0, none⟩), .pointer (some ⟨ba, 0, none⟩), .pointer (some ⟨w.heap.size + 1, 0, none⟩)]) (g := 59) (HT.out.on HB2.out) enters_top1 (fun h => by cases h))
    have HBB := hid hB
    clear hB
    go_wp2_with (first | (go_at_call 58; refine HRn.out.mono ?_; rintro e w3 ⟨v3, rfl, ht3, hb3⟩; have HT3 := hid ht3; have HB3 := hid hb3; have K23 := hid (block_on K22.out hb3); have y23 := block_cell K23.out; have x23 := block_frozen K23.out; obtain ⟨pc3, n3, cc3, pr3, m3, cr3, rfl⟩ := tabE_form ht3; clear ht3 hb3))
    refine bodyPost_ret (v := .tuple #[.agg #[.slice pc3 n3 cc3, .slice pr3 m3 cr3], .int .i64 (runE cs rs false)]) ?hv3 rfl ⟨_, by rw [HBB.out], by rw [HBB.out, HZE.out]; exact tabE_set HT3.out hR2 hW2, TN.below_set (TN.below_set (TN.below_on HB2.out HB3.out) (by omega)) (by omega)⟩
    case hv3 =>
      have KF := block_set (block_set K23.out 0 (.slice pc3 n3 cc3)) 1 (.slice pr3 m3 cr3)
      clear y23 x23
      generalize ((w3.setCell ⟨w.heap.size + 1 + 1, 0, none⟩ (.slice pc3 n3 cc3)).setCell ⟨w.heap.size + 1 + 1, 1, none⟩ (.slice pr3 m3 cr3)) = WF at KF ⊢
      have kcf := block_cell KF
      clear KF
      simp [results, Try.results30, go_sem, kcf]
  have d1 : decide (1 ≤ n) = true := decide_eq_true c1
  have d2 : decide (n ≤ 1000) = true := decide_eq_true c2
  have d3 : decide (0 ≤ z) = true := decide_eq_true c3
  obtain ⟨p, hp⟩ : ∃ p : Nat, z = p := ⟨z.toNat, by omega⟩
  have HPz := hid hp
  have hpl : p < cs.length := by have := HZl.out; omega
  have hpn : (p : Int) < nc := by have := HNC.out; omega
  obtain ⟨bc, oc, rfl, cell1⟩ : ∃ b o, pc = some ⟨b, o, none⟩ ∧ w2.cell? ⟨b, o + p * 2 + 1, none⟩ = some (.int .i64 (kdOf cs z)) := by
    obtain ⟨p', c', e', -, -, hx⟩ := HCo.out
    obtain ⟨b, o, hpp, -, hj⟩ := hx (by intro e; rw [e] at hpl; simp at hpl)
    subst hpp
    cases e'
    refine ⟨b, o, rfl, ?_⟩
    have := (TN.col_cells (hj p cs[p] (List.getElem?_eq_getElem hpl))).2
    unfold kdOf
    rw [HPz.out, Int.toNat_natCast, List.getD_eq_getElem?_getD, List.getElem?_eq_getElem hpl]
    exact this
  have ncI : (nc : Int) ≤ 9223372036854775807 := by
    obtain ⟨p', c', e', -, hm, -⟩ := HCo.out
    have := HNC.out
    unfold maxLen at hm
    omega
  obtain ⟨m, hm⟩ : ∃ m : Nat, n = m := ⟨n.toNat, by omega⟩
  subst hp
  have p0 : (0 : Int) ≤ p := by omega
  generalize kdOf cs p = kd at *
  by_cases c4 : kd = 4
  case pos =>
    have c4b : (kd != 4) = false := by simp [c4]
    have hB0 := HTB2.out
    have hB : topB cs n nm = false := by rw [hB0]; exact decide_eq_false (fun h => h.2.2.2 c4)
    have HRn := hid (run_any (mb := false) (cs' := cs) (rs' := (topL (p : Int).toNat rs).take n.toNat) (cb := #[.pointer (some ⟨w.heap.size, 0, none⟩), .pointer (some ⟨ba, 0, none⟩), .pointer (some ⟨w.heap.size + 1, 0, none⟩)]) (g := 59) (HT.out.on HB2.out) enters_top1 (fun h => by cases h))
    have HBB := hid hB
    clear hB
    go_wp2_with (first | (go_at_call 58; refine HRn.out.mono ?_; rintro e w3 ⟨v3, rfl, ht3, hb3⟩; have HT3 := hid ht3; have HB3 := hid hb3; have K23 := hid (block_on K22.out hb3); have y23 := block_cell K23.out; have x23 := block_frozen K23.out; obtain ⟨pc3, n3, cc3, pr3, m3, cr3, rfl⟩ := tabE_form ht3; clear ht3 hb3))
    refine bodyPost_ret (v := .tuple #[.agg #[.slice pc3 n3 cc3, .slice pr3 m3 cr3], .int .i64 (runE cs rs false)]) ?hv4 rfl ⟨_, by rw [HBB.out], by rw [HBB.out, HZE.out]; exact tabE_set HT3.out hR2 hW2, TN.below_set (TN.below_set (TN.below_on HB2.out HB3.out) (by omega)) (by omega)⟩
    case hv4 =>
      have KF := block_set (block_set K23.out 0 (.slice pc3 n3 cc3)) 1 (.slice pr3 m3 cr3)
      clear y23 x23
      generalize ((w3.setCell ⟨w.heap.size + 1 + 1, 0, none⟩ (.slice pc3 n3 cc3)).setCell ⟨w.heap.size + 1 + 1, 1, none⟩ (.slice pr3 m3 cr3)) = WF at KF ⊢
      have kcf := block_cell KF
      clear KF
      simp [results, Try.results30, go_sem, kcf]
  case neg =>
    have c4b : (kd != 4) = true := by simp [c4]
    have hB0 := HTB2.out
    subst hm
    have hB : topB cs m nm = true := by rw [hB0]; exact decide_eq_true ⟨c1, c2, p0, c4⟩
    have HRn := hid (run_any (mb := true) (cs' := cs) (rs' := (topL (p : Int).toNat rs).take (m : Int).toNat) (cb := #[.pointer (some ⟨w.heap.size, 0, none⟩), .pointer (some ⟨ba, 0, none⟩), .pointer (some ⟨w.heap.size + 1, 0, none⟩)]) (g := 59) (HT.out.on HB2.out) enters_top1 (fun _ hck W hbW => top1_any (p := p) (n := m) (HT.out.on (TN.below_on HB2.out hbW)) (block_cell (block_on K02.out hbW) 0) (block_cell (block_on K02.out hbW) 1) (block_cell (block_on K32.out hbW) 0) (block_cell (block_on K12.out hbW) 0) (fun r hr => by obtain ⟨q1, q2⟩ := rows_len hck; have := q2 r hr; omega) hrl))
    have HBB := hid hB
    clear hB
    go_wp2_with (first | (go_at_call 58; refine HRn.out.mono ?_; rintro e w3 ⟨v3, rfl, ht3, hb3⟩; have HT3 := hid ht3; have HB3 := hid hb3; have K23 := hid (block_on K22.out hb3); have y23 := block_cell K23.out; have x23 := block_frozen K23.out; obtain ⟨pc3, n3, cc3, pr3, m3, cr3, rfl⟩ := tabE_form ht3; clear ht3 hb3))
    refine bodyPost_ret (v := .tuple #[.agg #[.slice pc3 n3 cc3, .slice pr3 m3 cr3], .int .i64 (runE cs rs true)]) ?hv5 rfl ⟨_, by rw [HBB.out], by rw [HBB.out, HZE.out]; exact tabE_set HT3.out hR2 hW2, TN.below_set (TN.below_set (TN.below_on HB2.out HB3.out) (by omega)) (by omega)⟩
    case hv5 =>
      have KF := block_set (block_set K23.out 0 (.slice pc3 n3 cc3)) 1 (.slice pr3 m3 cr3)
      clear y23 x23
      generalize ((w3.setCell ⟨w.heap.size + 1 + 1, 0, none⟩ (.slice pc3 n3 cc3)).setCell ⟨w.heap.size + 1 + 1, 1, none⟩ (.slice pr3 m3 cr3)) = WF at KF ⊢
      have kcf := block_cell KF
      clear KF
      simp [results, Try.results30, go_sem, kcf]
end Go.Proofs.Ytcidijjbcebcbaa.RO
namespace Go.Proofs.Ytcidijjbcebcbaa
open Go.RowKit Go.Joins

theorem app_A {ops : Array Oper} {rest : List Oper} {o : Oper} {a : Act} {Q : Exit → Act → World → Prop} {w : World} {α : Type} {enc : α → List Value} {k e t B N : Nat} {Qb : Nat → Prop} {xs ys : List α} {v u : Value}
    (hE : ElemN t e k N) (hk : ∀ x, (enc x).length = k) (h1 : ∀ y ∈ ys, ∀ c ∈ enc y, c.oneCell' = true) (hgd : o.guard = none) (s x : Operand) (ho : o.op = .call { callee := .builtin .append, args := #[s, x], argTypes := #[t, t] })
    (hs : a.eval s = v) (hown : Own enc k e B w v xs) (hx : a.eval x = u) (hu : SlAt Qb enc k w u ys) (hne : ys ≠ []) (hb : (xs.length + ys.length) * N ≤ 140737488355328) (hN : 1 ≤ N) (hB : B ≤ w.heap.size)
    (h : ∀ v' w', Own enc k e B w' v' (xs ++ ys) → w.grownBy w' v.ownBlock → At w v v' → wpList Try.prog ops Q rest (a.put o.dst v') w') : wpList Try.prog ops Q (o :: rest) a w := by
  refine wpList_plain hgd fun K hK => ?_
  have := step_appP (ops := ops) (E := False) (K := K) (Q := Q) hE hk h1 hgd s x ho hs hx hown hu hne hb hN hB (fun v' w' a b c => hK _ _ (h v' w' a b c))
  rw [if_pos (by simp [Region.wanted, hgd])] at this
  exact this

end Go.Proofs.Ytcidijjbcebcbaa
namespace Go.Proofs.Ytcidijjbcebcbaa.TN
open Go.RowKit Go.Sort Go.Shelf

def leR (x y : Rw) : Bool := decide (cmpR x y ≤ 0)
def mergeR (a b : List Rw) : List Rw := List.merge a b leR
theorem mergeR_left {a b : List Rw} {i k : Nat} (hi : i < a.length) (hk : b.length ≤ k) : mergeR (a.drop i) (b.drop k) = a[i]! :: mergeR (a.drop (i + 1)) (b.drop k) := by
  have e1 : a[i]! = a[i] := by rw [List.getElem!_eq_getElem?_getD, List.getElem?_eq_getElem hi]; rfl
  rw [List.drop_eq_nil_of_le hk, List.drop_eq_getElem_cons hi, e1]
  unfold mergeR
  rw [List.merge_right, List.merge_right]
theorem mergeR_right {a b : List Rw} {i k : Nat} (hi : a.length ≤ i) (hk : k < b.length) : mergeR (a.drop i) (b.drop k) = b[k]! :: mergeR (a.drop i) (b.drop (k + 1)) := by
  have e1 : b[k]! = b[k] := by rw [List.getElem!_eq_getElem?_getD, List.getElem?_eq_getElem hk]; rfl
  rw [List.drop_eq_nil_of_le hi, List.drop_eq_getElem_cons hk, e1]
  unfold mergeR
  rw [List.nil_merge, List.nil_merge]
theorem mergeR_le {a b : List Rw} {i k : Nat} (hi : i < a.length) (hk : k < b.length) (h : cmpR a[i]! b[k]! ≤ 0) : mergeR (a.drop i) (b.drop k) = a[i]! :: mergeR (a.drop (i + 1)) (b.drop k) := by
  have e1 : a[i]! = a[i] := by rw [List.getElem!_eq_getElem?_getD, List.getElem?_eq_getElem hi]; rfl
  have e2 : b[k]! = b[k] := by rw [List.getElem!_eq_getElem?_getD, List.getElem?_eq_getElem hk]; rfl
  rw [e1, e2] at h
  rw [List.drop_eq_getElem_cons hi, List.drop_eq_getElem_cons hk, e1]
  unfold mergeR
  rw [List.cons_merge_cons, if_pos (by unfold leR; exact decide_eq_true h)]
theorem mergeR_gt {a b : List Rw} {i k : Nat} (hi : i < a.length) (hk : k < b.length) (h : ¬ cmpR a[i]! b[k]! ≤ 0) : mergeR (a.drop i) (b.drop k) = b[k]! :: mergeR (a.drop i) (b.drop (k + 1)) := by
  have e1 : a[i]! = a[i] := by rw [List.getElem!_eq_getElem?_getD, List.getElem?_eq_getElem hi]; rfl
  have e2 : b[k]! = b[k] := by rw [List.getElem!_eq_getElem?_getD, List.getElem?_eq_getElem hk]; rfl
  rw [e1, e2] at h
  rw [List.drop_eq_getElem_cons hi, List.drop_eq_getElem_cons hk, e2]
  unfold mergeR
  rw [List.cons_merge_cons, if_neg (by unfold leR; simpa using h)]
theorem mergeR_sort (a b : List Rw) : mergeR (sortR a) (sortR b) = sortR (a ++ b) := by
  refine sortR_of ?_ ?_
  · have := List.pairwise_merge (le := leR) (fun x y z h1 h2 => by unfold leR at *; simp at *; exact cmpR_trans h1 h2) (fun x y => by have := neg_cmpR x y; unfold leR; simp; omega) (sortR a) (sortR b) ((sortR_up a).imp fun h => by unfold leR; simpa using h) ((sortR_up b).imp fun h => by unfold leR; simpa using h)
    exact this.imp fun h => by unfold leR at h; simpa using h
  · exact (List.merge_perm_append (le := leR)).trans ((sortR_perm a).append (sortR_perm b))
theorem sortR_short {a : List Rw} (h : a.length < 2) : sortR a = a := by
  refine (sortR_of ?_ (List.Perm.refl a)).symm
  match a, h with
  | [], _ => exact List.Pairwise.nil
  | [x], _ => exact List.pairwise_singleton _ _
theorem SlAt.drop {α : Type} {Q : Nat → Prop} {enc : α → List Value} {k : Nat} {w : World} {p : Option Addr} {n cap : Nat} {xs : List α} (h : SlAt Q enc k w (.slice p n cap) xs) (hk1 : k = 1) (m : Nat) (hm : m ≤ n) : SlAt Q enc k w (.slice (if cap = m then p else Option.map (fun x => x.add m) p) (n - m) (cap - m)) (xs.drop m) := by
  subst hk1
  obtain ⟨p', cap', hv, ⟨hc, hno⟩, hmx, hx⟩ := h
  cases hv
  have hl : (xs.drop m).length = xs.length - m := by simp
  refine ⟨_, _, by rw [hl], ⟨by omega, ?_⟩, by omega, fun hne => ?_⟩
  · intro e
    split at e
    · omega
    · cases p with
      | none => have := hno rfl; omega
      | some a => cases e
  · have hlt : m < xs.length := by
      rcases Nat.lt_or_ge m xs.length with h | h
      · exact h
      · exact absurd (List.drop_eq_nil_of_le h) hne
    obtain ⟨b, o, rfl, hQ, hj⟩ := hx (by intro e; subst e; simp at hlt)
    rw [if_neg (by omega)]
    refine ⟨b, o + m, by simp [Addr.add_lit], ⟨hQ.1, Nat.le_trans (Nat.mul_le_mul_right _ (by omega)) hQ.2⟩, fun j x hjx => ?_⟩
    have := hj (m + j) x (by rw [List.getElem?_drop] at hjx; exact hjx)
    have e : o + (m + j) * 1 = o + m + j * 1 := by omega
    rwa [e] at this
theorem HeadsIn.drop {Q : Nat → Prop} {w : World} {hs : List Value} {rs : List Rw} (h : HeadsIn Q w hs rs) (m : Nat) : HeadsIn Q w (hs.drop m) (rs.drop m) := by
  refine ⟨by rw [List.length_drop, List.length_drop, h.1], fun j x r h1 h2 => ?_⟩
  rw [List.getElem?_drop] at h1 h2
  exact h.2 _ x r h1 h2
end Go.Proofs.Ytcidijjbcebcbaa.TN
namespace Go.Proofs.Ytcidijjbcebcbaa.TN
open Go.RowKit Go.Sort Go.Shelf

theorem neqV : NeqAt Try.prog 39 (fun x : Vl => .agg x.cells.toArray) eqL := by
  refine ⟨fun x y w => ?_, GuardAt.agg _ (by kernel_rfl)⟩
  have he := eql24 x.k x.n x.s x.h0 x.h1 x.h2 x.h3 x.h4 x.h5 x.h6 x.h7 y.k y.n y.s y.h0 y.h1 y.h2 y.h3 y.h4 y.h5 y.h6 y.h7 w
  show Sem.run Try.prog (binOp .neq 39 x.val y.val) w = _
  rw [show eqL x y = eqV x.k x.n x.s x.h0 x.h1 x.h2 x.h3 x.h4 x.h5 x.h6 x.h7 y.k y.n y.s y.h0 y.h1 y.h2 y.h3 y.h4 y.h5 y.h6 y.h7 from rfl]
  generalize eqV x.k x.n x.s x.h0 x.h1 x.h2 x.h3 x.h4 x.h5 x.h6 x.h7 y.k y.n y.s y.h0 y.h1 y.h2 y.h3 y.h4 y.h5 y.h6 y.h7 = r at he ⊢
  have he' : Sem.run Try.prog (Op.equalIn Op.maxDepth 39 x.val y.val) w = .ok r w := he
  simp [binOp, Op.equal, he']
theorem neqC : NeqAt Try.prog 61 (fun x : Cl => .agg x.cells.toArray) eqC := by
  refine ⟨fun x y w => ?_, GuardAt.agg _ (by kernel_rfl)⟩
  have u3 := Try.underlying3
  have a3 := Try.isAgg3
  have z3 := Try.sizeOf3
  have u9 := Try.underlying9
  have a9 := Try.isAgg9
  have z9 := Try.sizeOf9
  have hS : Try.prog.underlying 61 = some (.struct (Try.prog.fieldsOf 61)) := by kernel_rfl
  have hb := bytes_beq x.nm y.nm
  have he : (Op.equalIn 10000 61 (.agg #[.string x.nm, .int .i64 x.kd]) (.agg #[.string y.nm, .int .i64 y.kd])).run Try.prog w = .ok (eqC x y) w := by
    rw [show (10000 : Nat) = 9999 + 1 from rfl, run_equalIn_agg w 9999 61 _ _ hS Try.stoodInHeld61]
    simp only [Program.fieldsOf, Try.underlying61]
    go_simp
    unfold eqC
    by_cases h1 : x.nm = y.nm <;> by_cases h2 : x.kd = y.kd <;> simp [h1, h2]
  show Sem.run Try.prog (binOp .neq 61 (.agg #[.string x.nm, .int .i64 x.kd]) (.agg #[.string y.nm, .int .i64 y.kd])) w = _
  generalize eqC x y = r at he ⊢
  have he' : Sem.run Try.prog (Op.equalIn Op.maxDepth 61 (.agg #[.string x.nm, .int .i64 x.kd]) (.agg #[.string y.nm, .int .i64 y.kd])) w = .ok r w := he
  simp [binOp, Op.equal, he']
theorem allEq_iff {α : Type} [Inhabited α] [DecidableEq α] {eq : α → α → Bool} (heq : ∀ x y, eq x y = true ↔ x = y) : ∀ (xs ys : List α), Lib.allEq eq xs ys = decide (xs = ys)
  | [], [] => by simp [Lib.allEq]
  | [], _ :: _ => by simp [Lib.allEq]
  | _ :: _, [] => by simp [Lib.allEq]
  | x :: xs, y :: ys => by
    have := allEq_iff heq xs ys
    by_cases h : eq x y = true
    · have hxy := (heq x y).1 h
      subst hxy
      simp [Lib.allEq, h, this]
    · have hxy : ¬ x = y := fun e => h ((heq x y).2 e)
      simp [Lib.allEq, h, hxy]
theorem rows_ne {rs qs : List Rw} {k : Nat} (h : ¬ rs[k]! = qs[k]!) : ¬ rs = qs := fun e => h (by rw [e])
theorem rows_eq {rs qs : List Rw} (h1 : rs.length = qs.length) (h : ∀ k, k < rs.length → rs[k]! = qs[k]!) : rs = qs := by
  apply List.ext_getElem h1
  intro i hi hi'
  have := h i hi
  rw [List.getElem!_eq_getElem?_getD, List.getElem!_eq_getElem?_getD, List.getElem?_eq_getElem hi, List.getElem?_eq_getElem hi'] at this
  exact this
end Go.Proofs.Ytcidijjbcebcbaa.TN
