/-
  The contracts of Go's library that this program calls, laid at its numbers.
  What table.Find and the reference's Find return, for all columns and every name.
  What table.Check returns, for every table.
  What table.Check returns, for every table.
-/
import Derived.Test.YtlbjbkhcnafhcaaGreatProg
import Derived.Test.YtlbjbkhcnafhcaaGreatP07VMath
import Derived.Shelf.Slices.Turned
import Derived.Shelf.SlicesQ.Equal
import Derived.Shelf.SlicesQ.IndexFunc
import Derived.Shelf.SlicesE.Clone
namespace Go.Proofs
open Go.Shelf
open Go.Lib in
open Go.Lib in
open Go.Lib in
open Go.Lib in
def Tryz.cloneC_ren : Go.Shelf.Ren := ⟨fun | 41 => 45 | n => n, fun | 22 => 41 | 23 => 90 | 4 => 4 | n => n, fun | n => n⟩
theorem Tryz.cloneC : Go.Proofs.SlLaysE0.n41 Tryz.prog Tryz.cloneC_ren := {
  mixed := by kernel_rfl
  f41 := ⟨Tryz.f45.name, by decide, Tryz.func45.trans (congrArg some (by kernel_rfl))⟩
  t4 := Tryz.underlying4
  a4 := Tryz.isAgg4
  z4 := Tryz.sizeOf4
  v4 := Tryz.zeroValue4
  t22 := Tryz.underlying41
  a22 := Tryz.isAgg41
  z22 := Tryz.sizeOf41
  v22 := Tryz.zeroValue41 }
def Tryz.cloneV_ren : Go.Shelf.Ren := ⟨fun | 41 => 54 | n => n, fun | 22 => 32 | 23 => 40 | 4 => 4 | n => n, fun | n => n⟩
theorem Tryz.cloneV : Go.Proofs.SlLaysE0.n41 Tryz.prog Tryz.cloneV_ren := {
  mixed := by kernel_rfl
  f41 := ⟨Tryz.f54.name, by decide, Tryz.func54.trans (congrArg some (by kernel_rfl))⟩
  t4 := Tryz.underlying4
  a4 := Tryz.isAgg4
  z4 := Tryz.sizeOf4
  v4 := Tryz.zeroValue4
  t22 := Tryz.underlying32
  a22 := Tryz.isAgg32
  z22 := Tryz.sizeOf32
  v22 := Tryz.zeroValue32 }
def Tryz.indexC_ren : Go.Shelf.Ren := ⟨fun | 6 => 117 | n => n, fun | 22 => 41 | 23 => 90 | 25 => 151 | 3 => 3 | 0 => 0 | 4 => 4 | n => n, fun | n => n⟩
theorem Tryz.indexC : Go.Proofs.SlLaysH0.n6 Tryz.prog Tryz.indexC_ren := {
  mixed := by kernel_rfl
  f6 := ⟨Tryz.f117.name, by decide, Tryz.func117.trans (congrArg some (by kernel_rfl))⟩
  t0 := Tryz.underlying0
  a0 := Tryz.isAgg0
  z0 := Tryz.sizeOf0
  v0 := Tryz.zeroValue0
  t3 := Tryz.underlying3
  a3 := Tryz.isAgg3
  z3 := Tryz.sizeOf3
  v3 := Tryz.zeroValue3
  t4 := Tryz.underlying4
  a4 := Tryz.isAgg4
  z4 := Tryz.sizeOf4
  v4 := Tryz.zeroValue4
  t22 := Tryz.underlying41
  a22 := Tryz.isAgg41
  z22 := Tryz.sizeOf41
  v22 := Tryz.zeroValue41
  t25 := Tryz.underlying151
  a25 := Tryz.isAgg151
  z25 := Tryz.sizeOf151
  v25 := Tryz.zeroValue151 }
end Go.Proofs
namespace Go.Proofs.YtlbjbkhcnafhcaaGreat
open Go.RowKit Go.Sort Go.Shelf

instance : Inhabited Cl := ⟨⟨⟨#[]⟩, 0, by decide⟩⟩
def isNm (nm : ByteArray) (c : Cl) : Bool := decide (c.nm = nm)
def findC (cs : List Cl) (nm : ByteArray) : Int := Lib.idxBy (fun _ y => isNm nm y) cs default
theorem findC_hit {cs : List Cl} {nm : ByteArray} {k : Nat} (hk : k < cs.length) (h : isNm nm cs[k]! = true) (hne : ∀ j, j < k → isNm nm cs[j]! = false) : findC cs nm = k := by
  have := Lib.idxBy_hit (fun _ y => isNm nm y) cs cs.length k default hk (Nat.le_refl _) h hne
  rwa [List.take_length] at this
theorem findC_miss {cs : List Cl} {nm : ByteArray} (hne : ∀ j, j < cs.length → isNm nm cs[j]! = false) : findC cs nm = -1 := by
  have := Lib.idxBy_miss (fun _ y => isNm nm y) cs cs.length default hne
  rwa [List.take_length] at this
theorem get!_some {α : Type} [Inhabited α] {xs : List α} {j : Nat} (h : j < xs.length) : xs[j]? = some xs[j]! := by
  rw [List.getElem?_eq_getElem h, List.getElem!_eq_getElem?_getD, List.getElem?_eq_getElem h]; rfl

theorem isNm_bytes (nm : ByteArray) (c : Cl) : (c.nm.toList == nm.toList) = isNm nm c := bytes_beq _ _
set_option maxHeartbeats 400000 in
theorem findP (nm : ByteArray) (B : Nat) (w : World) (hB : w.cell? ⟨B, 0, none⟩ = some (.string nm)) :
    PredBelow Tryz.prog 118 #[.pointer (some ⟨B, 0, none⟩)] (fun x : Cl => .agg x.cells.toArray) (isNm nm) w := fun W x hb => by
  have hBl : B < w.heap.size := block_lt_of_cell hB
  have hc : W.cell? ⟨B, 0, none⟩ = some (.string nm) := (hb.cell (p := ⟨B, 0, none⟩) hBl).trans hB
  have hne : B ≠ W.heap.size := by have := hb.size; omega
  have hbl : B < W.heap.size := by have := hb.size; omega
  have hq := isNm_bytes nm x
  show Calls Tryz.prog 118 #[.agg #[.string x.nm, .int .i64 x.kd], .pointer (some ⟨B, 0, none⟩)] W _
  generalize isNm nm x = r at hq ⊢
  go_enter Tryz.func118, Tryz.ntmps118
  go_wp2
  go_ret
  exact ⟨rfl, hb.alloc hb.size _⟩
set_option maxHeartbeats 400000 in
theorem find_any {v : Value} {cs : List Cl} {nm : ByteArray} {w : World} (hv : ColsAt w v cs) :
    Calls Tryz.prog 99 #[v, .string nm] w fun e w' => e = .returned (.int .i64 (findC cs nm)) ∧ Below w.heap.size w w' := by
  obtain ⟨p, cap, rfl, hcap, hmax, hx⟩ := hv
  unfold maxLen at hmax
  generalize hr : findC cs nm = r
  have eg : ∀ args w, (callFunc 118 args).run Tryz.prog w = .ok (.enter 118 args) w := enters_of Tryz.func118 (by kernel_rfl) rfl
  have hcon : Calls Tryz.prog 117 #[.slice p cs.length cap, .func (.func 118) #[] #[.pointer (some ⟨w.heap.size, 0, none⟩)]] (w.alloc (.cells #[.string nm] 9)) fun e w' => e = .returned (.int .i64 r) ∧ Below (w.alloc (.cells #[.string nm] 9)).heap.size (w.alloc (.cells #[.string nm] 9)) w' := by
    rw [← hr]
    by_cases hn : cs = []
    · subst hn
      go_enter Tryz.func117, Tryz.ntmps117
      go_wp2
      refine wp_loop_rounds 1 ?_
      rw [rounds_succ]
      go_wp2
      go_ret
      exact ⟨rfl, Below.refl _ _⟩
    · obtain ⟨b, o, rfl, -, hj⟩ := hx hn
      have hb0 : b < w.heap.size := by
        have h0 : 0 < cs.length := List.length_pos_iff.2 hn
        exact block_lt_of_cell (hj 0 _ (get!_some h0) 0 _ rfl)
      have h := AnyQ.slices_IndexFunc Tryz.indexC 2 Tryz.isAgg90 Tryz.sizeOf90 Cl.cells (fun _ => rfl) (isNm nm) 118 #[.pointer (some ⟨w.heap.size, 0, none⟩)] eg b o cs.length cap cs (w.alloc (.cells #[.string nm] 9)) (findP nm w.heap.size _ (by simp)) (Nat.le_refl _) hmax (by simp; omega) (fun j hjl i u hu => Lib.cell?_alloc_some _ (hj j _ (get!_some hjl) i u hu))
      rw [List.take_length] at h
      exact h
  have HC := hid hcon
  clear hcon hx hr
  go_enter Tryz.func99, Tryz.ntmps99
  go_wp2_with (go_at_call 117; refine HC.out.mono ?_; rintro e w' ⟨rfl, hb'⟩)
  go_ret
  exact ⟨rfl, below_on ((Below.refl _ w).alloc (Nat.le_refl _) _) hb'⟩
set_option maxHeartbeats 400000 in
theorem rfind_any {v : Value} {cs : List Cl} {nm : ByteArray} {w : World} (hv : ColsAt w v cs) :
    Calls Tryz.prog 93 #[v, .string nm] w fun e w' => e = .returned (.int .i64 (findC cs nm)) ∧ Below w.heap.size w w' := by
  obtain ⟨p, cap, rfl, hcap, hmax, hx⟩ := hv
  unfold maxLen at hmax
  generalize hn : cs.length = n at *
  generalize hr : findC cs nm = r
  have HX := hid hx
  have HR := hid hr
  have HN := hid hn
  clear hx hr hn
  go_enter Tryz.func93, Tryz.ntmps93
  go_wp2
  go_loopw [5] (fun i wr => ∃ k : Nat, k ≤ n ∧ i = .int .i64 k ∧ Hid (Below w.heap.size w wr) ∧ Hid (∀ j, j < k → isNm nm cs[j]! = false)) (fun i _ => n - (intOf i).toNat)
  case atStart => exact ⟨0, by omega, rfl, Below.refl _ _, fun j h => absurd h (Nat.not_lt_zero _)⟩
  case round =>
    obtain ⟨k, hk, rfl, HB, HA⟩ := hrel
    by_cases hlt : k < n
    · have hkc : k < cs.length := by rw [HN.out]; exact hlt
      obtain ⟨b, o, rfl, -, hj⟩ := HX.out (by intro e; subst e; simp at hkc)
      have hc := (col_cells ((hj k _ (get!_some hkc)).on HB.out)).1
      have hq := isNm_bytes nm cs[k]!
      generalize hcc : cs[k]! = c at hc hq
      have HCC := hid hcc
      clear hcc hj
      cases hb : isNm nm c with
      | true =>
        rw [hb] at hq
        go_wp2
        go_ret
        exact ⟨ret_int ((findC_hit hkc (by rw [HCC.out]; exact hb) HA.out).symm.trans HR.out), HB.out⟩
      | false =>
        rw [hb] at hq
        go_wp2
        go_roundw
        case rel =>
          refine ⟨k + 1, by omega, by go_num, HB.out, fun j h => ?_⟩
          by_cases e : j = k
          · subst e; rw [HCC.out]; exact hb
          · exact HA.out j (by omega)
        case measure => simp [intOf]; omega
    · have hks : k = n := by omega
      subst hks
      go_wp2
      go_ret
      exact ⟨ret_int ((findC_miss (by rw [HN.out]; exact HA.out)).symm.trans HR.out), HB.out⟩
end Go.Proofs.YtlbjbkhcnafhcaaGreat
namespace Go.Proofs.YtlbjbkhcnafhcaaGreat
open Go.RowKit Go.Sort Go.Shelf

instance : Inhabited Vl := ⟨⟨0, 0, ⟨#[]⟩, 0, 0, 0, 0, 0, 0, 0, 0, by decide⟩⟩
def colOk (cs : List Cl) (i : Nat) (c : Cl) : Bool := nameB c.nm && (decide (findC cs c.nm = (i : Int)) && (decide (1 ≤ c.kd) && decide (c.kd ≤ 4)))
def colsB (cs : List Cl) : Bool := decide ((1 ≤ cs.length ∧ cs.length ≤ 16) ∧ ∀ j, j < cs.length → colOk cs j cs[j]! = true)
theorem colsB_no {cs : List Cl} (h : ¬ (1 ≤ cs.length ∧ cs.length ≤ 16)) : colsB cs = false := by simp only [colsB, decide_eq_false_iff_not]; exact fun h' => h h'.1
theorem colsB_bad {cs : List Cl} {j : Nat} (hj : j < cs.length) (h : colOk cs j cs[j]! = false) : colsB cs = false := by
  simp only [colsB, decide_eq_false_iff_not]; intro h'; rw [h'.2 j hj] at h; cases h
theorem colsB_yes {cs : List Cl} (h : 1 ≤ cs.length ∧ cs.length ≤ 16) (ha : ∀ j, j < cs.length → colOk cs j cs[j]! = true) : colsB cs = true := by
  simp only [colsB, decide_eq_true_eq]; exact ⟨h, ha⟩
def fitB (k : Int) (v : Vl) : Bool := decide (v.k = k) && validL v
def rowB (cs : List Cl) (r : Rw) : Bool := decide (r.length = cs.length ∧ ∀ j, j < r.length → fitB cs[j]!.kd r[j]! = true)
theorem rowB_no {cs : List Cl} {r : Rw} (h : ¬ r.length = cs.length) : rowB cs r = false := by simp only [rowB, decide_eq_false_iff_not]; exact fun h' => h h'.1
theorem rowB_bad {cs : List Cl} {r : Rw} {j : Nat} (hj : j < r.length) (h : fitB cs[j]!.kd r[j]! = false) : rowB cs r = false := by
  simp only [rowB, decide_eq_false_iff_not]; intro h'; rw [h'.2 j hj] at h; cases h
theorem rowB_yes {cs : List Cl} {r : Rw} (h : r.length = cs.length) (ha : ∀ j, j < r.length → fitB cs[j]!.kd r[j]! = true) : rowB cs r = true := by
  simp only [rowB, decide_eq_true_eq]; exact ⟨h, ha⟩
def checkV (cs : List Cl) (rs : List Rw) : Int := if colsB cs = true then (if rs.all (rowB cs) = true then 0 else 21) else 20

theorem colOk_name {cs : List Cl} {i : Nat} {c : Cl} (h : nameB c.nm = false) : colOk cs i c = false := by simp [colOk, h]
theorem colOk_find {cs : List Cl} {i : Nat} {c : Cl} (h : ¬ findC cs c.nm = (i : Int)) : colOk cs i c = false := by simp [colOk, h]
theorem colOk_kind {cs : List Cl} {i : Nat} {c : Cl} (h : ¬ (1 ≤ c.kd ∧ c.kd ≤ 4)) : colOk cs i c = false := by
  unfold colOk
  have : (decide (1 ≤ c.kd) && decide (c.kd ≤ 4)) = false := by rw [← Bool.decide_and]; simp only [decide_eq_false_iff_not]; exact h
  rw [this]; simp
theorem colOk_yes {cs : List Cl} {i : Nat} {c : Cl} (h1 : nameB c.nm = true) (h2 : findC cs c.nm = (i : Int)) (h3 : 1 ≤ c.kd) (h4 : c.kd ≤ 4) : colOk cs i c = true := by simp [colOk, h1, h2, h3, h4]
abbrev vc (x : Vl) : Array Value := #[.int .i64 x.k, .int .i64 x.n, .string x.s, .int .i64 x.h0, .int .i64 x.h1, .int .i64 x.h2, .int .i64 x.h3, .int .i64 x.h4, .int .i64 x.h5, .int .i64 x.h6, .int .i64 x.h7]
theorem fit_no {k : Int} {v : Vl} (h : ¬ v.k = k) : fitB k v = false := by simp [fitB, h]
theorem fit_is {k : Int} {v : Vl} (h : v.k = k) : fitB k v = validL v := by simp [fitB, h]
theorem valid_is {x : Vl} {r : Bool} {w : World} (h : validL x = r) : Calls Tryz.prog 77 #[x.val] w fun e w' => e = .returned (.bool r) ∧ Below w.heap.size w w' := by rw [← h]; exact valid_any
end Go.Proofs.YtlbjbkhcnafhcaaGreat
namespace Go.Proofs.YtlbjbkhcnafhcaaGreat
open Go.RowKit Go.Sort Go.Shelf

theorem head_cell {w : World} {b o : Nat} {hs : List Value} (h : ∀ (j : Nat) x, hs[j]? = some x → CellsAt w b (o + j * 1) (one x)) {k : Nat} {x : Value} (hk : hs[k]? = some x) : w.cell? ⟨b, o + k, none⟩ = some x := by
  have := h k x hk 0 x rfl
  simpa using this
theorem check_cols {cs : List Cl} {rs : List Rw} (h : colsB cs = false) : checkV cs rs = 20 := by simp [checkV, h]
theorem check_bad {cs : List Cl} {rs : List Rw} (h : colsB cs = true) {k : Nat} (hk : k < rs.length) (hb : rowB cs rs[k]! = false) : checkV cs rs = 21 := by
  unfold checkV
  rw [if_pos h, if_neg]
  intro ha
  rw [List.all_eq_true] at ha
  have := ha rs[k]! (List.mem_of_getElem? (get!_some hk))
  rw [hb] at this; cases this
theorem check_ok {cs : List Cl} {rs : List Rw} (h : colsB cs = true) (ha : ∀ k, k < rs.length → rowB cs rs[k]! = true) : checkV cs rs = 0 := by
  unfold checkV
  rw [if_pos h, if_pos]
  rw [List.all_eq_true]
  intro r hr
  obtain ⟨i, hi⟩ := List.getElem?_of_mem hr
  have hl : i < rs.length := (List.getElem?_eq_some_iff.1 hi).1
  have := ha i hl
  have e := get!_some hl
  rw [hi] at e; injection e with e; rw [e]; exact this
end Go.Proofs.YtlbjbkhcnafhcaaGreat
