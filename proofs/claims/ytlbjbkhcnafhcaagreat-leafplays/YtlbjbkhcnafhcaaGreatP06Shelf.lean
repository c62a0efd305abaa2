/-
  The contracts of Go's library that this program calls, laid at its numbers.
  What table.Find and the reference's Find return, for all columns and every name.
  What table.Check returns, for every table.
  What table.Check returns, for every table.
  Schemas and points as plain data: which words there are, which schemas may be, which points fit.
  A leaf's points as plain data, and as streams with their samples: what is there, what is added, what is told of some time.
-/
import Derived.Test.YtlbjbkhcnafhcaaGreatProg
import Derived.Test.YtlbjbkhcnafhcaaGreatP05Take
import Derived.Shelf.Slices.Turned
import Derived.Shelf.SlicesQ.Equal
import Derived.Shelf.SlicesQ.IndexFunc
import Derived.Shelf.SlicesE.Clone
namespace Go.Proofs
open Go.Shelf
open Go.Lib in
open Go.Lib in
open Go.Lib in
open Go.Lib in
def Tryz.cloneC_ren : Go.Shelf.Ren := ⟨fun | 41 => 45 | n => n, fun | 22 => 41 | 23 => 90 | 4 => 4 | n => n, fun | n => n⟩
theorem Tryz.cloneC : Go.Proofs.SlLaysE0.n41 Tryz.prog Tryz.cloneC_ren := {
  mixed := by kernel_rfl
  f41 := ⟨Tryz.f45.name, by decide, Tryz.func45.trans (congrArg some (by kernel_rfl))⟩
  t4 := Tryz.underlying4
  a4 := Tryz.isAgg4
  z4 := Tryz.sizeOf4
  v4 := Tryz.zeroValue4
  t22 := Tryz.underlying41
  a22 := Tryz.isAgg41
  z22 := Tryz.sizeOf41
  v22 := Tryz.zeroValue41 }
def Tryz.cloneV_ren : Go.Shelf.Ren := ⟨fun | 41 => 54 | n => n, fun | 22 => 32 | 23 => 40 | 4 => 4 | n => n, fun | n => n⟩
theorem Tryz.cloneV : Go.Proofs.SlLaysE0.n41 Tryz.prog Tryz.cloneV_ren := {
  mixed := by kernel_rfl
  f41 := ⟨Tryz.f54.name, by decide, Tryz.func54.trans (congrArg some (by kernel_rfl))⟩
  t4 := Tryz.underlying4
  a4 := Tryz.isAgg4
  z4 := Tryz.sizeOf4
  v4 := Tryz.zeroValue4
  t22 := Tryz.underlying32
  a22 := Tryz.isAgg32
  z22 := Tryz.sizeOf32
  v22 := Tryz.zeroValue32 }
def Tryz.indexC_ren : Go.Shelf.Ren := ⟨fun | 6 => 117 | n => n, fun | 22 => 41 | 23 => 90 | 25 => 151 | 3 => 3 | 0 => 0 | 4 => 4 | n => n, fun | n => n⟩
theorem Tryz.indexC : Go.Proofs.SlLaysH0.n6 Tryz.prog Tryz.indexC_ren := {
  mixed := by kernel_rfl
  f6 := ⟨Tryz.f117.name, by decide, Tryz.func117.trans (congrArg some (by kernel_rfl))⟩
  t0 := Tryz.underlying0
  a0 := Tryz.isAgg0
  z0 := Tryz.sizeOf0
  v0 := Tryz.zeroValue0
  t3 := Tryz.underlying3
  a3 := Tryz.isAgg3
  z3 := Tryz.sizeOf3
  v3 := Tryz.zeroValue3
  t4 := Tryz.underlying4
  a4 := Tryz.isAgg4
  z4 := Tryz.sizeOf4
  v4 := Tryz.zeroValue4
  t22 := Tryz.underlying41
  a22 := Tryz.isAgg41
  z22 := Tryz.sizeOf41
  v22 := Tryz.zeroValue41
  t25 := Tryz.underlying151
  a25 := Tryz.isAgg151
  z25 := Tryz.sizeOf151
  v25 := Tryz.zeroValue151 }
end Go.Proofs
namespace Go.Proofs.YtlbjbkhcnafhcaaGreat
open Go.RowKit Go.Sort Go.Shelf

instance : Inhabited Cl := ⟨⟨⟨#[]⟩, 0, by decide⟩⟩
def isNm (nm : ByteArray) (c : Cl) : Bool := decide (c.nm = nm)
def findC (cs : List Cl) (nm : ByteArray) : Int := Lib.idxBy (fun _ y => isNm nm y) cs default
theorem findC_hit {cs : List Cl} {nm : ByteArray} {k : Nat} (hk : k < cs.length) (h : isNm nm cs[k]! = true) (hne : ∀ j, j < k → isNm nm cs[j]! = false) : findC cs nm = k := by
  have := Lib.idxBy_hit (fun _ y => isNm nm y) cs cs.length k default hk (Nat.le_refl _) h hne
  rwa [List.take_length] at this
theorem findC_miss {cs : List Cl} {nm : ByteArray} (hne : ∀ j, j < cs.length → isNm nm cs[j]! = false) : findC cs nm = -1 := by
  have := Lib.idxBy_miss (fun _ y => isNm nm y) cs cs.length default hne
  rwa [List.take_length] at this
theorem get!_some {α : Type} [Inhabited α] {xs : List α} {j : Nat} (h : j < xs.length) : xs[j]? = some xs[j]! := by
  rw [List.getElem?_eq_getElem h, List.getElem!_eq_getElem?_getD, List.getElem?_eq_getElem h]; rfl

theorem isNm_bytes (nm : ByteArray) (c : Cl) : (c.nm.toList == nm.toList) = isNm nm c := bytes_beq _ _
set_option maxHeartbeats 400000 in
theorem findP (nm : ByteArray) (B : Nat) (w : World) (hB : w.cell? ⟨B, 0, none⟩ = some (.string nm)) :
    PredBelow Tryz.prog 118 #[.pointer (some ⟨B, 0, none⟩)] (fun x : Cl => .agg x.cells.toArray) (isNm nm) w := fun W x hb => by
  have hBl : B < w.heap.size := block_lt_of_cell hB
  have hc : W.cell? ⟨B, 0, none⟩ = some (.string nm) := (hb.cell (p := ⟨B, 0, none⟩) hBl).trans hB
  have hne : B ≠ W.heap.size := by have := hb.size; omega
  have hbl : B < W.heap.size := by have := hb.size; omega
  have hq := isNm_bytes nm x
  show Calls Tryz.prog 118 #[.agg #[.string x.nm, .int .i64 x.kd], .pointer (some ⟨B, 0, none⟩)] W _
  generalize isNm nm x = r at hq ⊢
  go_enter Tryz.func118, Tryz.ntmps118
  go_wp2
  go_ret
  exact ⟨rfl, hb.alloc hb.size _⟩
set_option maxHeartbeats 400000 in
theorem find_any {v : Value} {cs : List Cl} {nm : ByteArray} {w : World} (hv : ColsAt w v cs) :
    Calls Tryz.prog 99 #[v, .string nm] w fun e w' => e = .returned (.int .i64 (findC cs nm)) ∧ Below w.heap.size w w' := by
  obtain ⟨p, cap, rfl, hcap, hmax, hx⟩ := hv
  unfold maxLen at hmax
  generalize hr : findC cs nm = r
  have eg : ∀ args w, (callFunc 118 args).run Tryz.prog w = .ok (.enter 118 args) w := enters_of Tryz.func118 (by kernel_rfl) rfl
  have hcon : Calls Tryz.prog 117 #[.slice p cs.length cap, .func (.func 118) #[] #[.pointer (some ⟨w.heap.size, 0, none⟩)]] (w.alloc (.cells #[.string nm] 9)) fun e w' => e = .returned (.int .i64 r) ∧ Below (w.alloc (.cells #[.string nm] 9)).heap.size (w.alloc (.cells #[.string nm] 9)) w' := by
    rw [← hr]
    by_cases hn : cs = []
    · subst hn
      go_enter Tryz.func117, Tryz.ntmps117
      go_wp2
      refine wp_loop_rounds 1 ?_
      rw [rounds_succ]
      go_wp2
      go_ret
      exact ⟨rfl, Below.refl _ _⟩
    · obtain ⟨b, o, rfl, -, hj⟩ := hx hn
      have hb0 : b < w.heap.size := by
        have h0 : 0 < cs.length := List.length_pos_iff.2 hn
        exact block_lt_of_cell (hj 0 _ (get!_some h0) 0 _ rfl)
      have h := AnyQ.slices_IndexFunc Tryz.indexC 2 Tryz.isAgg90 Tryz.sizeOf90 Cl.cells (fun _ => rfl) (isNm nm) 118 #[.pointer (some ⟨w.heap.size, 0, none⟩)] eg b o cs.length cap cs (w.alloc (.cells #[.string nm] 9)) (findP nm w.heap.size _ (by simp)) (Nat.le_refl _) hmax (by simp; omega) (fun j hjl i u hu => Lib.cell?_alloc_some _ (hj j _ (get!_some hjl) i u hu))
      rw [List.take_length] at h
      exact h
  have HC := hid hcon
  clear hcon hx hr
  go_enter Tryz.func99, Tryz.ntmps99
  go_wp2_with (go_at_call 117; refine HC.out.mono ?_; rintro e w' ⟨rfl, hb'⟩)
  go_ret
  exact ⟨rfl, below_on ((Below.refl _ w).alloc (Nat.le_refl _) _) hb'⟩
set_option maxHeartbeats 400000 in
theorem rfind_any {v : Value} {cs : List Cl} {nm : ByteArray} {w : World} (hv : ColsAt w v cs) :
    Calls Tryz.prog 93 #[v, .string nm] w fun e w' => e = .returned (.int .i64 (findC cs nm)) ∧ Below w.heap.size w w' := by
  obtain ⟨p, cap, rfl, hcap, hmax, hx⟩ := hv
  unfold maxLen at hmax
  generalize hn : cs.length = n at *
  generalize hr : findC cs nm = r
  have HX := hid hx
  have HR := hid hr
  have HN := hid hn
  clear hx hr hn
  go_enter Tryz.func93, Tryz.ntmps93
  go_wp2
  go_loopw [5] (fun i wr => ∃ k : Nat, k ≤ n ∧ i = .int .i64 k ∧ Hid (Below w.heap.size w wr) ∧ Hid (∀ j, j < k → isNm nm cs[j]! = false)) (fun i _ => n - (intOf i).toNat)
  case atStart => exact ⟨0, by omega, rfl, Below.refl _ _, fun j h => absurd h (Nat.not_lt_zero _)⟩
  case round =>
    obtain ⟨k, hk, rfl, HB, HA⟩ := hrel
    by_cases hlt : k < n
    · have hkc : k < cs.length := by rw [HN.out]; exact hlt
      obtain ⟨b, o, rfl, -, hj⟩ := HX.out (by intro e; subst e; simp at hkc)
      have hc := (col_cells ((hj k _ (get!_some hkc)).on HB.out)).1
      have hq := isNm_bytes nm cs[k]!
      generalize hcc : cs[k]! = c at hc hq
      have HCC := hid hcc
      clear hcc hj
      cases hb : isNm nm c with
      | true =>
        rw [hb] at hq
        go_wp2
        go_ret
        exact ⟨ret_int ((findC_hit hkc (by rw [HCC.out]; exact hb) HA.out).symm.trans HR.out), HB.out⟩
      | false =>
        rw [hb] at hq
        go_wp2
        go_roundw
        case rel =>
          refine ⟨k + 1, by omega, by go_num, HB.out, fun j h => ?_⟩
          by_cases e : j = k
          · subst e; rw [HCC.out]; exact hb
          · exact HA.out j (by omega)
        case measure => simp [intOf]; omega
    · have hks : k = n := by omega
      subst hks
      go_wp2
      go_ret
      exact ⟨ret_int ((findC_miss (by rw [HN.out]; exact HA.out)).symm.trans HR.out), HB.out⟩
end Go.Proofs.YtlbjbkhcnafhcaaGreat
namespace Go.Proofs.YtlbjbkhcnafhcaaGreat
open Go.RowKit Go.Sort Go.Shelf

instance : Inhabited Vl := ⟨⟨0, 0, ⟨#[]⟩, 0, 0, 0, 0, 0, 0, 0, 0, by decide⟩⟩
def colOk (cs : List Cl) (i : Nat) (c : Cl) : Bool := nameB c.nm && (decide (findC cs c.nm = (i : Int)) && (decide (1 ≤ c.kd) && decide (c.kd ≤ 4)))
def colsB (cs : List Cl) : Bool := decide ((1 ≤ cs.length ∧ cs.length ≤ 16) ∧ ∀ j, j < cs.length → colOk cs j cs[j]! = true)
theorem colsB_no {cs : List Cl} (h : ¬ (1 ≤ cs.length ∧ cs.length ≤ 16)) : colsB cs = false := by simp only [colsB, decide_eq_false_iff_not]; exact fun h' => h h'.1
theorem colsB_bad {cs : List Cl} {j : Nat} (hj : j < cs.length) (h : colOk cs j cs[j]! = false) : colsB cs = false := by
  simp only [colsB, decide_eq_false_iff_not]; intro h'; rw [h'.2 j hj] at h; cases h
theorem colsB_yes {cs : List Cl} (h : 1 ≤ cs.length ∧ cs.length ≤ 16) (ha : ∀ j, j < cs.length → colOk cs j cs[j]! = true) : colsB cs = true := by
  simp only [colsB, decide_eq_true_eq]; exact ⟨h, ha⟩
def fitB (k : Int) (v : Vl) : Bool := decide (v.k = k) && validL v
def rowB (cs : List Cl) (r : Rw) : Bool := decide (r.length = cs.length ∧ ∀ j, j < r.length → fitB cs[j]!.kd r[j]! = true)
theorem rowB_no {cs : List Cl} {r : Rw} (h : ¬ r.length = cs.length) : rowB cs r = false := by simp only [rowB, decide_eq_false_iff_not]; exact fun h' => h h'.1
theorem rowB_bad {cs : List Cl} {r : Rw} {j : Nat} (hj : j < r.length) (h : fitB cs[j]!.kd r[j]! = false) : rowB cs r = false := by
  simp only [rowB, decide_eq_false_iff_not]; intro h'; rw [h'.2 j hj] at h; cases h
theorem rowB_yes {cs : List Cl} {r : Rw} (h : r.length = cs.length) (ha : ∀ j, j < r.length → fitB cs[j]!.kd r[j]! = true) : rowB cs r = true := by
  simp only [rowB, decide_eq_true_eq]; exact ⟨h, ha⟩
def checkV (cs : List Cl) (rs : List Rw) : Int := if colsB cs = true then (if rs.all (rowB cs) = true then 0 else 21) else 20

theorem colOk_name {cs : List Cl} {i : Nat} {c : Cl} (h : nameB c.nm = false) : colOk cs i c = false := by simp [colOk, h]
theorem colOk_find {cs : List Cl} {i : Nat} {c : Cl} (h : ¬ findC cs c.nm = (i : Int)) : colOk cs i c = false := by simp [colOk, h]
theorem colOk_kind {cs : List Cl} {i : Nat} {c : Cl} (h : ¬ (1 ≤ c.kd ∧ c.kd ≤ 4)) : colOk cs i c = false := by
  unfold colOk
  have : (decide (1 ≤ c.kd) && decide (c.kd ≤ 4)) = false := by rw [← Bool.decide_and]; simp only [decide_eq_false_iff_not]; exact h
  rw [this]; simp
theorem colOk_yes {cs : List Cl} {i : Nat} {c : Cl} (h1 : nameB c.nm = true) (h2 : findC cs c.nm = (i : Int)) (h3 : 1 ≤ c.kd) (h4 : c.kd ≤ 4) : colOk cs i c = true := by simp [colOk, h1, h2, h3, h4]
abbrev vc (x : Vl) : Array Value := #[.int .i64 x.k, .int .i64 x.n, .string x.s, .int .i64 x.h0, .int .i64 x.h1, .int .i64 x.h2, .int .i64 x.h3, .int .i64 x.h4, .int .i64 x.h5, .int .i64 x.h6, .int .i64 x.h7]
theorem fit_no {k : Int} {v : Vl} (h : ¬ v.k = k) : fitB k v = false := by simp [fitB, h]
theorem fit_is {k : Int} {v : Vl} (h : v.k = k) : fitB k v = validL v := by simp [fitB, h]
theorem valid_is {x : Vl} {r : Bool} {w : World} (h : validL x = r) : Calls Tryz.prog 77 #[x.val] w fun e w' => e = .returned (.bool r) ∧ Below w.heap.size w w' := by rw [← h]; exact valid_any
end Go.Proofs.YtlbjbkhcnafhcaaGreat
namespace Go.Proofs.YtlbjbkhcnafhcaaGreat
open Go.RowKit Go.Sort Go.Shelf

theorem head_cell {w : World} {b o : Nat} {hs : List Value} (h : ∀ (j : Nat) x, hs[j]? = some x → CellsAt w b (o + j * 1) (one x)) {k : Nat} {x : Value} (hk : hs[k]? = some x) : w.cell? ⟨b, o + k, none⟩ = some x := by
  have := h k x hk 0 x rfl
  simpa using this
theorem check_cols {cs : List Cl} {rs : List Rw} (h : colsB cs = false) : checkV cs rs = 20 := by simp [checkV, h]
theorem check_bad {cs : List Cl} {rs : List Rw} (h : colsB cs = true) {k : Nat} (hk : k < rs.length) (hb : rowB cs rs[k]! = false) : checkV cs rs = 21 := by
  unfold checkV
  rw [if_pos h, if_neg]
  intro ha
  rw [List.all_eq_true] at ha
  have := ha rs[k]! (List.mem_of_getElem? (get!_some hk))
  rw [hb] at this; cases this
theorem check_ok {cs : List Cl} {rs : List Rw} (h : colsB cs = true) (ha : ∀ k, k < rs.length → rowB cs rs[k]! = true) : checkV cs rs = 0 := by
  unfold checkV
  rw [if_pos h, if_pos]
  rw [List.all_eq_true]
  intro r hr
  obtain ⟨i, hi⟩ := List.getElem?_of_mem hr
  have hl : i < rs.length := (List.getElem?_eq_some_iff.1 hi).1
  have := ha i hl
  have e := get!_some hl
  rw [hi] at e; injection e with e; rw [e]; exact this
end Go.Proofs.YtlbjbkhcnafhcaaGreat
namespace Go.Proofs.YtlbjbkhcnafhcaaGreat
open Go.RowKit Go.Sort Go.Shelf

def taken : List ByteArray := [⟨#[102, 101, 116, 99, 104]⟩, ⟨#[102, 114, 111, 109]⟩, ⟨#[116, 111]⟩, ⟨#[119, 104, 101, 114, 101]⟩, ⟨#[107, 101, 101, 112]⟩, ⟨#[97, 108, 105, 103, 110]⟩, ⟨#[103, 114, 111, 117, 112]⟩, ⟨#[116, 111, 112]⟩, ⟨#[98, 121]⟩, ⟨#[106, 111, 105, 110]⟩, ⟨#[117, 110, 105, 111, 110]⟩, ⟨#[97, 110, 100]⟩, ⟨#[111, 114]⟩, ⟨#[110, 111, 116]⟩, ⟨#[104, 97, 115]⟩, ⟨#[116, 114, 117, 101]⟩, ⟨#[102, 97, 108, 115, 101]⟩, ⟨#[99, 111, 117, 110, 116]⟩, ⟨#[115, 117, 109]⟩, ⟨#[109, 105, 110]⟩, ⟨#[109, 97, 120]⟩, ⟨#[109, 101, 97, 110]⟩, ⟨#[109, 101, 114, 103, 101]⟩, ⟨#[116, 105, 109, 101]⟩]
def takenB (s : ByteArray) : Bool := taken.any (fun t => decide (t = s))
def hashB (s : ByteArray) : Bool := decide ((35 : UInt8) ∈ s.data.toList)
def wordB (s : ByteArray) : Bool := nameB s && (!hashB s && !takenB s)
instance : Inhabited ByteArray := ⟨⟨#[]⟩⟩
def findN (ns : List ByteArray) (nm : ByteArray) : Int := Lib.idxBy (fun _ y => decide (y = nm)) ns default
def nameFrom (nm : ByteArray) : List ByteArray → Nat → Int
  | [], _ => -1
  | y :: r, i => if y = nm then (i : Int) else nameFrom nm r (i + 1)
theorem findN_from (nm : ByteArray) : ∀ (ns : List ByteArray) (i : Nat), Lib.idxByFrom (fun _ y => decide (y = nm)) default ns i = nameFrom nm ns i
  | [], _ => rfl
  | y :: r, i => by
    unfold Lib.idxByFrom nameFrom
    rw [findN_from nm r (i + 1)]
    by_cases h : y = nm <;> simp [h]
theorem findN_eq (ns : List ByteArray) (nm : ByteArray) : findN ns nm = nameFrom nm ns 0 := findN_from nm ns 0
theorem findC_from (nm : ByteArray) : ∀ (cs : List Cl) (i : Nat), Lib.idxByFrom (fun _ y => isNm nm y) default cs i = nameFrom nm (cs.map Cl.nm) i
  | [], _ => rfl
  | y :: r, i => by
    unfold Lib.idxByFrom
    rw [findC_from nm r (i + 1), List.map_cons]
    show _ = if y.nm = nm then (i : Int) else nameFrom nm (r.map Cl.nm) (i + 1)
    unfold isNm
    by_cases h : y.nm = nm <;> simp [h]
theorem findC_eq (cs : List Cl) (nm : ByteArray) : findC cs nm = nameFrom nm (cs.map Cl.nm) 0 := findC_from nm cs 0
theorem from_neg (nm : ByteArray) : ∀ (ns : List ByteArray) (i : Nat), nm ∉ ns → nameFrom nm ns i = -1
  | [], _, _ => rfl
  | y :: r, i, h => by
    unfold nameFrom
    rw [if_neg (fun e => h (by rw [e]; exact List.mem_cons_self ..)), from_neg nm r (i + 1) (fun e => h (List.mem_cons_of_mem _ e))]
theorem from_ge (nm : ByteArray) : ∀ (ns : List ByteArray) (i : Nat), nm ∈ ns → (i : Int) ≤ nameFrom nm ns i
  | [], _, h => absurd h List.not_mem_nil
  | y :: r, i, h => by
    unfold nameFrom
    by_cases e : y = nm
    · rw [if_pos e]; exact Int.le_refl _
    · rw [if_neg e]
      have h' : nm ∈ r := by
        rcases List.mem_cons.1 h with rfl | h
        · exact absurd rfl e
        · exact h
      have := from_ge nm r (i + 1) h'
      omega
theorem from_nodup : ∀ (ns : List ByteArray) (i : Nat), (ns.Nodup ↔ ∀ j (h : j < ns.length), nameFrom ns[j] ns i = ((i + j : Nat) : Int))
  | [], _ => by simp
  | y :: r, i => by
    rw [List.nodup_cons, from_nodup r (i + 1)]
    constructor
    · rintro ⟨hy, h⟩ j hj
      cases j with
      | zero => simp [nameFrom]
      | succ j =>
        have hj' : j < r.length := by simpa using hj
        rw [List.getElem_cons_succ]
        unfold nameFrom
        rw [if_neg (fun e => hy (by rw [e]; exact List.getElem_mem hj')), h j hj']
        omega
    · intro h
      refine ⟨fun hy => ?_, fun j hj => ?_⟩
      · obtain ⟨j, hj, e⟩ := List.mem_iff_getElem.1 hy
        have := h (j + 1) (by simp; exact hj)
        rw [List.getElem_cons_succ] at this
        unfold nameFrom at this
        rw [if_pos e.symm] at this
        omega
      · have := h (j + 1) (by simp; exact hj)
        rw [List.getElem_cons_succ] at this
        unfold nameFrom at this
        split at this
        · omega
        · rw [this]; omega
theorem from_append (nm : ByteArray) : ∀ (ns ms : List ByteArray) (i : Nat), nm ∈ ns → nameFrom nm (ns ++ ms) i = nameFrom nm ns i
  | [], _, _, h => absurd h List.not_mem_nil
  | y :: r, ms, i, h => by
    rw [List.cons_append]
    unfold nameFrom
    by_cases e : y = nm
    · rw [if_pos e, if_pos e]
    · rw [if_neg e, if_neg e]
      refine from_append nm r ms (i + 1) ?_
      rcases List.mem_cons.1 h with rfl | h
      · exact absurd rfl e
      · exact h

/- Which columns, which schemas. -/
structure Sc where
  nm : ByteArray
  ks : List Cl
  vs : List Cl
  small : nm.size ≤ maxLen
instance : Inhabited Sc := ⟨⟨⟨#[]⟩, [], [], by decide⟩⟩
def colW (m : Int) (c : Cl) : Bool := wordB c.nm && (decide (1 ≤ c.kd) && decide (c.kd ≤ m))
def kindsB (cs : List Cl) (m : Int) : Bool := decide (1 ≤ cs.length ∧ cs.length ≤ 4) && cs.all (colW m)
def apartB (cs : List Cl) : Bool := decide ((cs.map Cl.nm).Nodup)
def mayB (s : Sc) : Bool := wordB s.nm && (kindsB s.ks 3 && (kindsB s.vs 4 && apartB (s.ks ++ s.vs)))
def okS (l : List Sc) : Bool := decide (1 ≤ l.length ∧ l.length ≤ 8) && (l.all mayB && decide ((l.map Sc.nm).Nodup))
def checkS (l : List Sc) : Int := if okS l = true then 0 else 50
def atS (l : List Sc) (nm : ByteArray) : Int := nameFrom nm (l.map Sc.nm) 0
theorem word_name {s : ByteArray} (h : wordB s = true) : nameB s = true := by simp only [wordB, Bool.and_eq_true] at h; exact h.1
def cTime : Cl := ⟨⟨#[116, 105, 109, 101]⟩, 1, by decide⟩
theorem word_time {s : ByteArray} (h : wordB s = true) : ¬ cTime.nm = s := by
  simp only [wordB, Bool.and_eq_true, Bool.not_eq_true'] at h
  intro e
  rw [← e] at h
  exact absurd h.2.2 (by decide)
def colsS (s : Sc) : List Cl := cTime :: (s.ks ++ s.vs)

/- What the reference asks of a schema's columns is the same. -/
def oneB (s : Sc) : Bool := (wordB s.nm && (decide (1 ≤ s.ks.length ∧ s.ks.length ≤ 4) && decide (1 ≤ s.vs.length ∧ s.vs.length ≤ 4))) && ((s.ks ++ s.vs).all (fun c => wordB c.nm) && (s.ks.all (fun c => !decide (c.kd = 4)) && colsB (s.ks ++ s.vs)))
theorem colsB_iff (cs : List Cl) : colsB cs = true ↔ (1 ≤ cs.length ∧ cs.length ≤ 16) ∧ (∀ c ∈ cs, nameB c.nm = true ∧ 1 ≤ c.kd ∧ c.kd ≤ 4) ∧ (cs.map Cl.nm).Nodup := by
  simp only [colsB, decide_eq_true_eq, colOk, Bool.and_eq_true]
  have hg : ∀ j (h : j < cs.length), cs[j]! = cs[j] := fun j h => getElem!_pos cs j h
  refine and_congr_right fun _ => ?_
  rw [from_nodup (cs.map Cl.nm) 0]
  constructor
  · intro h
    refine ⟨fun c hc => ?_, fun j hj => ?_⟩
    · obtain ⟨j, hj, rfl⟩ := List.mem_iff_getElem.1 hc
      have := h j hj
      rw [hg j hj] at this
      exact ⟨this.1, this.2.2⟩
    · have hj' : j < cs.length := by simpa using hj
      have := (h j hj').2.1
      rw [hg j hj', findC_eq] at this
      rw [List.getElem_map, this]; omega
  · rintro ⟨h1, h2⟩ j hj
    rw [hg j hj]
    refine ⟨(h1 _ (List.getElem_mem hj)).1, ?_, (h1 _ (List.getElem_mem hj)).2⟩
    have := h2 j (by simpa using hj)
    rw [List.getElem_map] at this
    rw [findC_eq, this]; omega
theorem one_may (s : Sc) : oneB s = mayB s := by
  rw [Bool.eq_iff_iff]
  simp only [oneB, mayB, kindsB, colW, apartB, Bool.and_eq_true, decide_eq_true_eq, List.all_eq_true, colsB_iff, Bool.not_eq_true', decide_eq_false_iff_not, List.mem_append]
  constructor
  · rintro ⟨⟨h1, h2, h3⟩, h4, h5, _, h7, h8⟩
    refine ⟨h1, ⟨h2, fun c hc => ⟨h4 c (.inl hc), (h7 c (.inl hc)).2.1, ?_⟩⟩, ⟨h3, fun c hc => ⟨h4 c (.inr hc), (h7 c (.inr hc)).2⟩⟩, h8⟩
    have := (h7 c (.inl hc)).2.2
    have := h5 c hc
    omega
  · rintro ⟨h1, ⟨h2, h3⟩, ⟨h4, h5⟩, h6⟩
    refine ⟨⟨h1, h2, h4⟩, ?_, ?_, by rw [List.length_append]; omega, ?_, h6⟩
    · rintro c (hc | hc)
      · exact (h3 c hc).1
      · exact (h5 c hc).1
    · intro c hc
      have := (h3 c hc).2.2
      omega
    · rintro c (hc | hc)
      · exact ⟨word_name (h3 c hc).1, (h3 c hc).2.1, by have := (h3 c hc).2.2; omega⟩
      · exact ⟨word_name (h5 c hc).1, (h5 c hc).2⟩

/- Points. -/
structure Pt where
  sc : ByteArray
  ks : Rw
  tm : Int
  vs : Rw
  small : sc.size ≤ maxLen
def fitP (s : Sc) (p : Pt) : Bool := rowB s.ks p.ks && (rowB s.vs p.vs && (decide (0 ≤ p.tm) && decide (p.tm < 1099511627776)))
def fitsS (l : List Sc) (p : Pt) : Int := if atS l p.sc < 0 then 50 else if fitP l[(atS l p.sc).toNat]! p = true then 0 else 51
theorem atS_none {l : List Sc} {nm : ByteArray} (h : nm ∉ l.map Sc.nm) : atS l nm = -1 := from_neg _ _ _ h
theorem atS_get {l : List Sc} (hn : (l.map Sc.nm).Nodup) {j : Nat} (hj : j < l.length) : atS l l[j].nm = (j : Int) := by
  have := (from_nodup (l.map Sc.nm) 0).1 hn j (by simpa using hj)
  rw [List.getElem_map] at this
  unfold atS
  rw [this]; omega
theorem atS_mem {l : List Sc} {nm : ByteArray} (h : nm ∈ l.map Sc.nm) : 0 ≤ atS l nm := from_ge _ _ 0 h
theorem atS_lt {l : List Sc} {nm : ByteArray} : atS l nm < l.length := by
  unfold atS
  have : ∀ (ns : List ByteArray) (i : Nat), nameFrom nm ns i < ((i + ns.length : Nat) : Int) ∨ nameFrom nm ns i = -1 := by
    intro ns
    induction ns with
    | nil => intro i; right; rfl
    | cons y r ih =>
      intro i
      unfold nameFrom
      split
      · left; simp; omega
      · rcases ih (i + 1) with h | h
        · left; simp at h ⊢; omega
        · right; exact h
  have := this (l.map Sc.nm) 0
  rw [List.length_map] at this
  omega
theorem from_is (nm : ByteArray) : ∀ (ns : List ByteArray) (i j : Nat), nameFrom nm ns i = ((i + j : Nat) : Int) → ns[j]? = some nm
  | [], i, j, h => by unfold nameFrom at h; omega
  | y :: r, i, j, h => by
    unfold nameFrom at h
    split at h
    · rename_i e
      have : j = 0 := by omega
      subst this; simp [e]
    · cases j with
      | zero =>
        exfalso
        by_cases hm : nm ∈ r
        · have := from_ge nm r (i + 1) hm; omega
        · have := from_neg nm r (i + 1) hm; omega
      | succ j =>
        have := from_is nm r (i + 1) j (by rw [h]; omega)
        simpa using this
theorem atS_is {l : List Sc} {nm : ByteArray} {j : Nat} (h : atS l nm = (j : Int)) : ∃ s, l[j]? = some s ∧ s.nm = nm := by
  have := from_is nm (l.map Sc.nm) 0 j (by unfold atS at h; rw [h]; omega)
  rw [List.getElem?_map] at this
  cases hl : l[j]? with
  | none => rw [hl] at this; cases this
  | some s => rw [hl] at this; exact ⟨s, rfl, by simpa using this⟩
theorem check_parts0 {l : List Sc} (h : checkS l = 0) : (1 ≤ l.length ∧ l.length ≤ 8) ∧ (∀ s ∈ l, mayB s = true) ∧ (l.map Sc.nm).Nodup := by
  unfold checkS at h
  split at h
  · rename_i ho
    simp only [okS, Bool.and_eq_true, decide_eq_true_eq, List.all_eq_true] at ho
    exact ho
  · omega
theorem check_of {l : List Sc} (h : (1 ≤ l.length ∧ l.length ≤ 8) ∧ (∀ s ∈ l, mayB s = true) ∧ (l.map Sc.nm).Nodup) : checkS l = 0 := by
  unfold checkS
  rw [if_pos]
  simp only [okS, Bool.and_eq_true, decide_eq_true_eq, List.all_eq_true]
  exact h
theorem check_two (l : List Sc) : checkS l = 0 ∨ checkS l = 50 := by unfold checkS; split <;> simp
theorem nodup_rev {l : List ByteArray} : l.reverse.Nodup ↔ l.Nodup := (List.reverse_perm l).nodup_iff
theorem check_reverse (l : List Sc) : checkS l.reverse = checkS l := by
  unfold checkS
  have : okS l.reverse = okS l := by
    rw [Bool.eq_iff_iff]
    simp only [okS, Bool.and_eq_true, decide_eq_true_eq, List.all_eq_true, List.length_reverse, List.mem_reverse, List.map_reverse, nodup_rev]
  rw [this]
theorem check_drop {l : List Sc} (h : checkS l = 0) (h2 : 2 ≤ l.length) : checkS (l.take (l.length - 1)) = 0 := by
  obtain ⟨h3, h4, h5⟩ := check_parts0 h
  refine check_of ⟨by rw [List.length_take]; omega, fun s hs => h4 s (List.mem_of_mem_take hs), ?_⟩
  rw [List.map_take]
  exact h5.sublist (List.take_sublist _ _)
theorem row_cons {c : Cl} {cs : List Cl} {v : Vl} {r : Rw} (h1 : fitB c.kd v = true) (h2 : rowB cs r = true) : rowB (c :: cs) (v :: r) = true := by
  simp only [rowB, decide_eq_true_eq] at h2 ⊢
  refine ⟨by simp [h2.1], fun j hj => ?_⟩
  cases j with
  | zero => simpa using h1
  | succ j => simpa using h2.2 j (by simpa using hj)
theorem row_append {cs ds : List Cl} {r q : Rw} (h1 : rowB cs r = true) (h2 : rowB ds q = true) : rowB (cs ++ ds) (r ++ q) = true := by
  induction cs generalizing r with
  | nil =>
    simp only [rowB, decide_eq_true_eq] at h1
    have : r = [] := List.eq_nil_of_length_eq_zero h1.1
    subst this; exact h2
  | cons c cs ih =>
    cases r with
    | nil => simp only [rowB, decide_eq_true_eq] at h1; simp at h1
    | cons v r =>
      simp only [rowB, decide_eq_true_eq] at h1
      refine row_cons (by simpa using h1.2 0 (by simp)) (ih ?_)
      simp only [rowB, decide_eq_true_eq]
      exact ⟨by simpa using h1.1, fun j hj => by simpa using h1.2 (j + 1) (by simpa using hj)⟩
theorem table_ok {s : Sc} {p : Pt} {v : Vl} (hs : mayB s = true) (hp : fitP s p = true) (hv : fitB 1 v = true) : checkV (colsS s) [v :: (p.ks ++ p.vs)] = 0 := by
  simp only [fitP, Bool.and_eq_true] at hp
  have hr : rowB (colsS s) (v :: (p.ks ++ p.vs)) = true := row_cons hv (row_append hp.1 hp.2.1)
  have hc : colsB (colsS s) = true := by
    rw [← one_may] at hs
    simp only [oneB, Bool.and_eq_true, decide_eq_true_eq, colsB_iff, List.all_eq_true] at hs
    rw [colsB_iff]
    obtain ⟨⟨_, h2, h3⟩, h4, _, _, h7, h8⟩ := hs
    refine ⟨by simp [colsS]; omega, ?_, ?_⟩
    · intro c hc
      rcases List.mem_cons.1 hc with rfl | hc
      · exact ⟨by decide, by decide, by decide⟩
      · exact h7 c hc
    · rw [colsS, List.map_cons, List.nodup_cons]
      refine ⟨fun hm => ?_, h8⟩
      obtain ⟨c, hc, e⟩ := List.mem_map.1 hm
      exact word_time (h4 c hc) e.symm
  unfold checkV
  rw [if_pos hc, if_pos]
  simp [hr]
end Go.Proofs.YtlbjbkhcnafhcaaGreat
namespace Go.Proofs.YtlbjbkhcnafhcaaGreat
open Go.RowKit

abbrev Sm := SN.Sm
abbrev Sp := RN.Sp
def kyP (p : Pt) : Sm := ⟨p.sc, p.ks⟩
def spP (p : Pt) : Sp := ⟨p.tm, p.vs⟩
def prP (p : Pt) : Sm × Sp := (kyP p, spP p)
def sameP (p q : Pt) : Bool := decide (q.sc = p.sc ∧ q.tm = p.tm ∧ q.ks = p.ks)
def hasP (pts : List Pt) (p : Pt) : Bool := pts.any (sameP p)
def vT (n : Int) : Vl := ⟨1, n, ⟨#[]⟩, 0, 0, 0, 0, 0, 0, 0, 0, by decide⟩
def rowP (p : Pt) : Rw := vT p.tm :: (p.ks ++ p.vs)
def rowY (y : Sm × Sp) : Rw := vT y.2.t :: (y.1.ks ++ y.2.vs)
def ofP (nm : ByteArray) (a z : Int) (p : Pt) : Bool := decide (p.sc = nm ∧ a ≤ p.tm ∧ p.tm ≤ z)
def ofY (nm : ByteArray) (a z : Int) (y : Sm × Sp) : Bool := decide (y.1.nm = nm ∧ a ≤ y.2.t ∧ y.2.t ≤ z)
def scanR (pts : List Pt) (nm : ByteArray) (a z : Int) : List Rw := (pts.filter (ofP nm a z)).map rowP
def flat (l : List Sm) (R : List (List Sp)) : List (Sm × Sp) := (l.zip R).flatMap fun x => x.2.map fun s => (x.1, s)
structure Iv (pts : List Pt) (l : List Sm) (R : List (List Sp)) : Prop where
  len : R.length = l.length
  nd : l.Nodup
  ne : ∀ q ∈ R, q ≠ []
  pm : (flat l R).Perm (pts.map prP)
theorem Iv.nil : Iv [] [] [] := ⟨rfl, List.nodup_nil, (fun _ h => nomatch h), List.Perm.refl _⟩
theorem mem_flat {l : List Sm} {R : List (List Sp)} {s : Sm} {x : Sp} : (s, x) ∈ flat l R ↔ ∃ (j : Nat) (q : List Sp), l[j]? = some s ∧ R[j]? = some q ∧ x ∈ q := by
  unfold flat
  simp only [List.mem_flatMap, List.mem_map, Prod.mk.injEq, Prod.exists]
  constructor
  · rintro ⟨s', q, hm, x', hx, rfl, rfl⟩
    obtain ⟨j, hj, e⟩ := List.getElem_of_mem hm
    rw [List.getElem_zip] at e
    have hj1 : j < l.length := by rw [List.length_zip] at hj; omega
    have hj2 : j < R.length := by rw [List.length_zip] at hj; omega
    injection e with e1 e2
    exact ⟨j, q, by rw [List.getElem?_eq_getElem hj1, e1], by rw [List.getElem?_eq_getElem hj2, e2], hx⟩
  · rintro ⟨j, q, h1, h2, hx⟩
    refine ⟨s, q, ?_, x, hx, rfl, rfl⟩
    refine List.mem_of_getElem? (i := j) ?_
    rw [List.getElem?_zip_eq_some]
    exact ⟨h1, h2⟩
theorem Iv.has {pts : List Pt} {l : List Sm} {R : List (List Sp)} (h : Iv pts l R) {p : Pt} {j : Nat} {q : List Sp} (h1 : l[j]? = some (kyP p)) (h2 : R[j]? = some q) : hasP pts p = RN.hasT q p.tm := by
  rw [Bool.eq_iff_iff, RN.hasT_iff]
  unfold hasP sameP
  simp only [List.any_eq_true, decide_eq_true_eq]
  constructor
  · rintro ⟨r, hr, e1, e2, e3⟩
    have hm : (kyP p, spP r) ∈ flat l R := h.pm.mem_iff.2 (List.mem_map.2 ⟨r, hr, by unfold prP kyP; rw [e1, e3]⟩)
    obtain ⟨i, q', g1, g2, g3⟩ := mem_flat.1 hm
    have hi1 := (List.getElem?_eq_some_iff.1 g1).1
    have hj1 := (List.getElem?_eq_some_iff.1 h1).1
    have hij : i = j := by
      rw [List.getElem?_eq_getElem hi1] at g1
      rw [List.getElem?_eq_getElem hj1] at h1
      exact (List.getElem_inj h.nd).1 ((Option.some.inj g1).trans (Option.some.inj h1).symm)
    subst hij
    rw [h2] at g2
    cases g2
    exact ⟨spP r, g3, e2⟩
  · rintro ⟨s, hs, e⟩
    have hm := h.pm.mem_iff.1 (mem_flat.2 ⟨j, q, h1, h2, hs⟩)
    obtain ⟨r, hr, er⟩ := List.mem_map.1 hm
    unfold prP at er
    injection er with e1 e2
    unfold kyP at e1
    injection e1 with e3 e4
    exact ⟨r, hr, e3, by rw [← e, ← e2]; rfl, e4⟩
theorem Iv.hasNo {pts : List Pt} {l : List Sm} {R : List (List Sp)} (h : Iv pts l R) {p : Pt} (h1 : kyP p ∉ l) : hasP pts p = false := by
  cases hh : hasP pts p with
  | false => rfl
  | true =>
    unfold hasP sameP at hh
    simp only [List.any_eq_true, decide_eq_true_eq] at hh
    obtain ⟨r, hr, e1, e2, e3⟩ := hh
    have hm : (kyP p, spP r) ∈ flat l R := h.pm.mem_iff.2 (List.mem_map.2 ⟨r, hr, by unfold prP kyP; rw [e1, e3]⟩)
    obtain ⟨i, q', g1, g2, g3⟩ := mem_flat.1 hm
    exact absurd (List.mem_of_getElem? g1) h1
theorem zip_append1 {α β : Type} : ∀ {l : List α} {R : List β} {a : α} {b : β}, R.length = l.length → (l ++ [a]).zip (R ++ [b]) = l.zip R ++ [(a, b)]
  | [], [], _, _, _ => rfl
  | [], _ :: _, _, _, h => by simp at h
  | _ :: _, [], _, _, h => by simp at h
  | x :: l, y :: R, a, b, h => by simp only [List.cons_append, List.zip_cons_cons]; rw [zip_append1 (by simpa using h)]
theorem Iv.add {pts : List Pt} {l : List Sm} {R : List (List Sp)} (h : Iv pts l R) {p : Pt} (h1 : kyP p ∉ l) : Iv (pts ++ [p]) (l ++ [kyP p]) (R ++ [[spP p]]) := by
  refine ⟨by simp [h.len], ?_, ?_, ?_⟩
  · rw [List.nodup_append]
    exact ⟨h.nd, by simp, fun a ha b hb => by simp at hb; subst hb; exact fun e => h1 (e ▸ ha)⟩
  · intro q hq
    rcases List.mem_append.1 hq with hq | hq
    · exact h.ne q hq
    · simp at hq; subst hq; simp
  · unfold flat
    rw [zip_append1 h.len, List.flatMap_append, List.map_append]
    exact h.pm.append (by simp [prP])
theorem flat_set : ∀ {l : List Sm} {R : List (List Sp)} {j : Nat} {s : Sm} {q : List Sp} {x : Sp} {q' : List Sp}, R.length = l.length → l[j]? = some s → R[j]? = some q → q'.Perm (x :: q) → (flat l (R.set j q')).Perm ((s, x) :: flat l R)
  | [], _, _, _, _, _, _, _, h, _, _ => by simp at h
  | _ :: _, [], _, _, _, _, _, h, _, _, _ => by simp at h
  | y :: l, z :: R, 0, s, q, x, q', _, h1, h2, hp => by
    simp at h1 h2; subst h1 h2
    unfold flat
    simp only [List.set_cons_zero, List.zip_cons_cons, List.flatMap_cons]
    have := (hp.map fun s => (y, s)).append_right ((l.zip R).flatMap fun x => x.2.map fun s => (x.1, s))
    simpa using this
  | y :: l, z :: R, j + 1, s, q, x, q', h, h1, h2, hp => by
    have ih := flat_set (l := l) (R := R) (j := j) (by simpa using h) (by simpa using h1) (by simpa using h2) hp
    unfold flat at ih ⊢
    simp only [List.set_cons_succ, List.zip_cons_cons, List.flatMap_cons]
    exact (ih.append_left _).trans List.perm_middle
theorem Iv.put {pts : List Pt} {l : List Sm} {R : List (List Sp)} (h : Iv pts l R) {p : Pt} {j : Nat} {q : List Sp} (h1 : l[j]? = some (kyP p)) (h2 : R[j]? = some q) (h3 : RN.hasT q p.tm = false) : Iv (pts ++ [p]) l (R.set j (RN.addS q (spP p))) := by
  have e : RN.addS q (spP p) = RN.insS q (spP p) := RN.addS_new h3
  refine ⟨by simp [h.len], h.nd, ?_, ?_⟩
  · intro x hx
    rcases List.mem_or_eq_of_mem_set hx with hx | hx
    · exact h.ne x hx
    · subst hx; rw [e]; intro e0; have := RN.insS_len q (spP p); rw [e0] at this; simp at this
  · rw [e]
    refine (flat_set h.len h1 h2 (RN.insS_perm q (spP p))).trans ?_
    rw [List.map_append]
    exact (h.pm.cons _).trans (List.perm_append_singleton _ _).symm
theorem flat_len_ge : ∀ {l : List Sm} {R : List (List Sp)}, R.length = l.length → (∀ q ∈ R, q ≠ []) → l.length ≤ (flat l R).length
  | [], _, _, _ => by simp
  | _ :: _, [], h, _ => by simp at h
  | y :: l, z :: R, h, hn => by
    have ih := flat_len_ge (l := l) (R := R) (by simpa using h) (fun q hq => hn q (by simp [hq]))
    have hz : 1 ≤ z.length := by
      cases z with
      | nil => exact absurd rfl (hn [] (by simp))
      | cons _ _ => simp
    unfold flat at ih ⊢
    simp only [List.zip_cons_cons, List.flatMap_cons, List.length_append, List.length_map, List.length_cons]
    omega
theorem Iv.l_le {pts : List Pt} {l : List Sm} {R : List (List Sp)} (h : Iv pts l R) : l.length ≤ pts.length := by
  have := flat_len_ge h.len h.ne
  rw [h.pm.length_eq, List.length_map] at this
  exact this
theorem flat_len_q : ∀ {l : List Sm} {R : List (List Sp)} {j : Nat} {q : List Sp}, R.length = l.length → R[j]? = some q → q.length ≤ (flat l R).length
  | _, [], _, _, _, h => by simp at h
  | [], _ :: _, _, _, h, _ => by simp at h
  | y :: l, z :: R, 0, q, _, h2 => by
    simp at h2; subst h2
    unfold flat
    simp only [List.zip_cons_cons, List.flatMap_cons, List.length_append, List.length_map]
    omega
  | y :: l, z :: R, j + 1, q, h, h2 => by
    have ih := flat_len_q (l := l) (R := R) (j := j) (by simpa using h) (by simpa using h2)
    unfold flat at ih ⊢
    simp only [List.zip_cons_cons, List.flatMap_cons, List.length_append]
    omega
theorem Iv.q_le {pts : List Pt} {l : List Sm} {R : List (List Sp)} (h : Iv pts l R) {j : Nat} {q : List Sp} (h2 : R[j]? = some q) : q.length ≤ pts.length := by
  have := flat_len_q h.len h2
  rw [h.pm.length_eq, List.length_map] at this
  exact this
/- What is told of some time. -/
def rowsI (l : List Sm) (R : List (List Sp)) (a z : Int) (i : Int) : List Rw := (RN.rngS R[i.toNat]! a z).map fun s => vT s.t :: ((l[i.toNat]!).ks ++ s.vs)
theorem filter_one (s : Sm) (nm : ByteArray) (a z : Int) (q : List Sp) : ((q.map fun x => (s, x)).filter (ofY nm a z)).map rowY = if s.nm = nm then (RN.rngS q a z).map (fun x => vT x.t :: (s.ks ++ x.vs)) else [] := by
  induction q with
  | nil => simp [RN.rngS]
  | cons x q ih =>
    unfold RN.rngS at ih ⊢
    simp only [List.map_cons, List.filter_cons]
    by_cases e : s.nm = nm
    · rw [if_pos e] at ih ⊢
      by_cases c : a ≤ x.t ∧ x.t ≤ z
      · have c1 : ofY nm a z (s, x) = true := by simp [ofY, e, c]
        have c2 : RN.inR a z x = true := by simp [RN.inR, c]
        rw [c1, c2, if_pos rfl, if_pos rfl, List.map_cons, List.map_cons, ih]; rfl
      · have c1 : ofY nm a z (s, x) = false := by simp only [ofY, decide_eq_false_iff_not]; exact fun h => c h.2
        have c2 : RN.inR a z x = false := by simp only [RN.inR, decide_eq_false_iff_not]; exact c
        rw [c1, c2, if_neg (by decide), if_neg (by decide), ih]
    · have c1 : ofY nm a z (s, x) = false := by simp [ofY, e]
      rw [if_neg e] at ih ⊢
      rw [c1, if_neg (by decide), ih]
theorem rows_from (nm : ByteArray) (a z : Int) : ∀ (l0 l : List Sm) (R0 R : List (List Sp)), R0.length = l0.length → R.length = l.length →
    (SN.ofL nm l0.length l).flatMap (rowsI (l0 ++ l) (R0 ++ R) a z) = ((flat l R).filter (ofY nm a z)).map rowY
  | _, [], _, _, _, _ => by simp [SN.ofL, flat]
  | _, _ :: _, _, [], _, h => by simp at h
  | l0, y :: l, R0, q :: R, h0, h => by
    have ih := rows_from nm a z (l0 ++ [y]) l (R0 ++ [q]) R (by simp [h0]) (by simpa using h)
    rw [List.append_assoc, List.append_assoc, List.length_append] at ih
    simp only [List.singleton_append, List.length_cons, List.length_nil, Nat.zero_add] at ih
    have e1 : rowsI (l0 ++ y :: l) (R0 ++ q :: R) a z (l0.length : Int) = (RN.rngS q a z).map (fun x => vT x.t :: (y.ks ++ x.vs)) := by
      unfold rowsI
      have g1 : (l0 ++ y :: l)[l0.length]! = y := by
        rw [getElem!_pos _ _ (by simp)]; simp
      have g2 : (R0 ++ q :: R)[l0.length]! = q := by
        rw [← h0, getElem!_pos _ _ (by simp)]; simp
      rw [Int.toNat_natCast, g1, g2]
    have e2 : flat (y :: l) (q :: R) = (q.map fun x => (y, x)) ++ flat l R := by unfold flat; simp
    rw [e2, List.filter_append, List.map_append, filter_one]
    unfold SN.ofL
    by_cases e : y.nm = nm
    · rw [if_pos e, if_pos e, List.flatMap_cons, ih, e1]
    · rw [if_neg e, if_neg e, ih]; rfl
theorem filter_pr (nm : ByteArray) (a z : Int) (pts : List Pt) : ((pts.map prP).filter (ofY nm a z)).map rowY = scanR pts nm a z := by
  unfold scanR
  rw [List.filter_map, List.map_map]
  rfl
theorem Iv.scan {pts : List Pt} {l : List Sm} {R : List (List Sp)} (h : Iv pts l R) (nm : ByteArray) (a z : Int) : ((SN.ofL nm 0 l).flatMap (rowsI l R a z)).Perm (scanR pts nm a z) := by
  have := rows_from nm a z [] l [] R rfl h.len
  simp only [List.length_nil, List.nil_append] at this
  rw [this, ← filter_pr]
  exact (h.pm.filter _).map _
end Go.Proofs.YtlbjbkhcnafhcaaGreat
