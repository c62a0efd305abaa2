/-
  Schemas and points as plain data: which words there are, which schemas may be, which points fit.
  How schemas and points lie in memory.
  What schema.isTaken and strings.Contains return, for every text.
-/
import Derived.Test.YtjfholofgohcjaaPC
import Derived.Test.YtjfholofgohcjaaPD
import Derived.Test.YtjfholofgohcjaaQSShelf
namespace Go.Proofs.Ytjfholofgohcjaa
open Go.RowKit Go.Sort Go.Shelf

def taken : List ByteArray := [⟨#[102, 101, 116, 99, 104]⟩, ⟨#[102, 114, 111, 109]⟩, ⟨#[116, 111]⟩, ⟨#[119, 104, 101, 114, 101]⟩, ⟨#[107, 101, 101, 112]⟩, ⟨#[97, 108, 105, 103, 110]⟩, ⟨#[103, 114, 111, 117, 112]⟩, ⟨#[116, 111, 112]⟩, ⟨#[98, 121]⟩, ⟨#[106, 111, 105, 110]⟩, ⟨#[117, 110, 105, 111, 110]⟩, ⟨#[97, 110, 100]⟩, ⟨#[111, 114]⟩, ⟨#[110, 111, 116]⟩, ⟨#[104, 97, 115]⟩, ⟨#[116, 114, 117, 101]⟩, ⟨#[102, 97, 108, 115, 101]⟩, ⟨#[99, 111, 117, 110, 116]⟩, ⟨#[115, 117, 109]⟩, ⟨#[109, 105, 110]⟩, ⟨#[109, 97, 120]⟩, ⟨#[109, 101, 97, 110]⟩, ⟨#[109, 101, 114, 103, 101]⟩, ⟨#[116, 105, 109, 101]⟩]
def takenB (s : ByteArray) : Bool := taken.any (fun t => decide (t = s))
def hashB (s : ByteArray) : Bool := decide ((35 : UInt8) ∈ s.data.toList)
def wordB (s : ByteArray) : Bool := nameB s && (!hashB s && !takenB s)
instance : Inhabited ByteArray := ⟨⟨#[]⟩⟩
def findN (ns : List ByteArray) (nm : ByteArray) : Int := Lib.idxBy (fun _ y => decide (y = nm)) ns default
def nameFrom (nm : ByteArray) : List ByteArray → Nat → Int
  | [], _ => -1
  | y :: r, i => if y = nm then (i : Int) else nameFrom nm r (i + 1)
theorem findN_from (nm : ByteArray) : ∀ (ns : List ByteArray) (i : Nat), Lib.idxByFrom (fun _ y => decide (y = nm)) default ns i = nameFrom nm ns i
  | [], _ => rfl
  | y :: r, i => by
    unfold Lib.idxByFrom nameFrom
    rw [findN_from nm r (i + 1)]
    by_cases h : y = nm <;> simp [h]
theorem findN_eq (ns : List ByteArray) (nm : ByteArray) : findN ns nm = nameFrom nm ns 0 := findN_from nm ns 0
theorem findC_from (nm : ByteArray) : ∀ (cs : List Cl) (i : Nat), Lib.idxByFrom (fun _ y => isNm nm y) default cs i = nameFrom nm (cs.map Cl.nm) i
  | [], _ => rfl
  | y :: r, i => by
    unfold Lib.idxByFrom
    rw [findC_from nm r (i + 1), List.map_cons]
    show _ = if y.nm = nm then (i : Int) else nameFrom nm (r.map Cl.nm) (i + 1)
    unfold isNm
    by_cases h : y.nm = nm <;> simp [h]
theorem findC_eq (cs : List Cl) (nm : ByteArray) : findC cs nm = nameFrom nm (cs.map Cl.nm) 0 := findC_from nm cs 0
theorem from_neg (nm : ByteArray) : ∀ (ns : List ByteArray) (i : Nat), nm ∉ ns → nameFrom nm ns i = -1
  | [], _, _ => rfl
  | y :: r, i, h => by
    unfold nameFrom
    rw [if_neg (fun e => h (by rw [e]; exact List.mem_cons_self ..)), from_neg nm r (i + 1) (fun e => h (List.mem_cons_of_mem _ e))]
theorem from_ge (nm : ByteArray) : ∀ (ns : List ByteArray) (i : Nat), nm ∈ ns → (i : Int) ≤ nameFrom nm ns i
  | [], _, h => absurd h List.not_mem_nil
  | y :: r, i, h => by
    unfold nameFrom
    by_cases e : y = nm
    · rw [if_pos e]; exact Int.le_refl _
    · rw [if_neg e]
      have h' : nm ∈ r := by
        rcases List.mem_cons.1 h with rfl | h
        · exact absurd rfl e
        · exact h
      have := from_ge nm r (i + 1) h'
      omega
theorem from_nodup : ∀ (ns : List ByteArray) (i : Nat), (ns.Nodup ↔ ∀ j (h : j < ns.length), nameFrom ns[j] ns i = ((i + j : Nat) : Int))
  | [], _ => by simp
  | y :: r, i => by
    rw [List.nodup_cons, from_nodup r (i + 1)]
    constructor
    · rintro ⟨hy, h⟩ j hj
      cases j with
      | zero => simp [nameFrom]
      | succ j =>
        have hj' : j < r.length := by simpa using hj
        rw [List.getElem_cons_succ]
        unfold nameFrom
        rw [if_neg (fun e => hy (by rw [e]; exact List.getElem_mem hj')), h j hj']
        omega
    · intro h
      refine ⟨fun hy => ?_, fun j hj => ?_⟩
      · obtain ⟨j, hj, e⟩ := List.mem_iff_getElem.1 hy
        have := h (j + 1) (by simp; exact hj)
        rw [List.getElem_cons_succ] at this
        unfold nameFrom at this
        rw [if_pos e.symm] at this
        omega
      · have := h (j + 1) (by simp; exact hj)
        rw [List.getElem_cons_succ] at this
        unfold nameFrom at this
        split at this
        · omega
        · rw [this]; omega
theorem from_append (nm : ByteArray) : ∀ (ns ms : List ByteArray) (i : Nat), nm ∈ ns → nameFrom nm (ns ++ ms) i = nameFrom nm ns i
  | [], _, _, h => absurd h List.not_mem_nil
  | y :: r, ms, i, h => by
    rw [List.cons_append]
    unfold nameFrom
    by_cases e : y = nm
    · rw [if_pos e, if_pos e]
    · rw [if_neg e, if_neg e]
      refine from_append nm r ms (i + 1) ?_
      rcases List.mem_cons.1 h with rfl | h
      · exact absurd rfl e
      · exact h

/- Which columns, which schemas. -/
structure Sc where
  nm : ByteArray
  ks : List Cl
  vs : List Cl
  small : nm.size ≤ maxLen
instance : Inhabited Sc := ⟨⟨⟨#[]⟩, [], [], by decide⟩⟩
def colW (m : Int) (c : Cl) : Bool := wordB c.nm && (decide (1 ≤ c.kd) && decide (c.kd ≤ m))
def kindsB (cs : List Cl) (m : Int) : Bool := decide (1 ≤ cs.length ∧ cs.length ≤ 4) && cs.all (colW m)
def apartB (cs : List Cl) : Bool := decide ((cs.map Cl.nm).Nodup)
def mayB (s : Sc) : Bool := wordB s.nm && (kindsB s.ks 3 && (kindsB s.vs 4 && apartB (s.ks ++ s.vs)))
def okS (l : List Sc) : Bool := decide (1 ≤ l.length ∧ l.length ≤ 8) && (l.all mayB && decide ((l.map Sc.nm).Nodup))
def checkS (l : List Sc) : Int := if okS l = true then 0 else 50
def atS (l : List Sc) (nm : ByteArray) : Int := nameFrom nm (l.map Sc.nm) 0
theorem word_name {s : ByteArray} (h : wordB s = true) : nameB s = true := by simp only [wordB, Bool.and_eq_true] at h; exact h.1
def cTime : Cl := ⟨⟨#[116, 105, 109, 101]⟩, 1, by decide⟩
theorem word_time {s : ByteArray} (h : wordB s = true) : ¬ cTime.nm = s := by
  simp only [wordB, Bool.and_eq_true, Bool.not_eq_true'] at h
  intro e
  rw [← e] at h
  exact absurd h.2.2 (by decide)
def colsS (s : Sc) : List Cl := cTime :: (s.ks ++ s.vs)

/- What the reference asks of a schema's columns is the same. -/
def oneB (s : Sc) : Bool := (wordB s.nm && (decide (1 ≤ s.ks.length ∧ s.ks.length ≤ 4) && decide (1 ≤ s.vs.length ∧ s.vs.length ≤ 4))) && ((s.ks ++ s.vs).all (fun c => wordB c.nm) && (s.ks.all (fun c => !decide (c.kd = 4)) && colsB (s.ks ++ s.vs)))
theorem colsB_iff (cs : List Cl) : colsB cs = true ↔ (1 ≤ cs.length ∧ cs.length ≤ 16) ∧ (∀ c ∈ cs, nameB c.nm = true ∧ 1 ≤ c.kd ∧ c.kd ≤ 4) ∧ (cs.map Cl.nm).Nodup := by
  simp only [colsB, decide_eq_true_eq, colOk, Bool.and_eq_true]
  have hg : ∀ j (h : j < cs.length), cs[j]! = cs[j] := fun j h => getElem!_pos cs j h
  refine and_congr_right fun _ => ?_
  rw [from_nodup (cs.map Cl.nm) 0]
  constructor
  · intro h
    refine ⟨fun c hc => ?_, fun j hj => ?_⟩
    · obtain ⟨j, hj, rfl⟩ := List.mem_iff_getElem.1 hc
      have := h j hj
      rw [hg j hj] at this
      exact ⟨this.1, this.2.2⟩
    · have hj' : j < cs.length := by simpa using hj
      have := (h j hj').2.1
      rw [hg j hj', findC_eq] at this
      rw [List.getElem_map, this]; omega
  · rintro ⟨h1, h2⟩ j hj
    rw [hg j hj]
    refine ⟨(h1 _ (List.getElem_mem hj)).1, ?_, (h1 _ (List.getElem_mem hj)).2⟩
    have := h2 j (by simpa using hj)
    rw [List.getElem_map] at this
    rw [findC_eq, this]; omega
theorem one_may (s : Sc) : oneB s = mayB s := by
  rw [Bool.eq_iff_iff]
  simp only [oneB, mayB, kindsB, colW, apartB, Bool.and_eq_true, decide_eq_true_eq, List.all_eq_true, colsB_iff, Bool.not_eq_true', decide_eq_false_iff_not, List.mem_append]
  constructor
  · rintro ⟨⟨h1, h2, h3⟩, h4, h5, _, h7, h8⟩
    refine ⟨h1, ⟨h2, fun c hc => ⟨h4 c (.inl hc), (h7 c (.inl hc)).2.1, ?_⟩⟩, ⟨h3, fun c hc => ⟨h4 c (.inr hc), (h7 c (.inr hc)).2⟩⟩, h8⟩
    have := (h7 c (.inl hc)).2.2
    have := h5 c hc
    omega
  · rintro ⟨h1, ⟨h2, h3⟩, ⟨h4, h5⟩, h6⟩
    refine ⟨⟨h1, h2, h4⟩, ?_, ?_, by rw [List.length_append]; omega, ?_, h6⟩
    · rintro c (hc | hc)
      · exact (h3 c hc).1
      · exact (h5 c hc).1
    · intro c hc
      have := (h3 c hc).2.2
      omega
    · rintro c (hc | hc)
      · exact ⟨word_name (h3 c hc).1, (h3 c hc).2.1, by have := (h3 c hc).2.2; omega⟩
      · exact ⟨word_name (h5 c hc).1, (h5 c hc).2⟩

/- Points. -/
structure Pt where
  sc : ByteArray
  ks : Rw
  tm : Int
  vs : Rw
  small : sc.size ≤ maxLen
def fitP (s : Sc) (p : Pt) : Bool := rowB s.ks p.ks && (rowB s.vs p.vs && (decide (0 ≤ p.tm) && decide (p.tm < 1099511627776)))
def fitsS (l : List Sc) (p : Pt) : Int := if atS l p.sc < 0 then 50 else if fitP l[(atS l p.sc).toNat]! p = true then 0 else 51
theorem atS_none {l : List Sc} {nm : ByteArray} (h : nm ∉ l.map Sc.nm) : atS l nm = -1 := from_neg _ _ _ h
theorem atS_get {l : List Sc} (hn : (l.map Sc.nm).Nodup) {j : Nat} (hj : j < l.length) : atS l l[j].nm = (j : Int) := by
  have := (from_nodup (l.map Sc.nm) 0).1 hn j (by simpa using hj)
  rw [List.getElem_map] at this
  unfold atS
  rw [this]; omega
theorem atS_mem {l : List Sc} {nm : ByteArray} (h : nm ∈ l.map Sc.nm) : 0 ≤ atS l nm := from_ge _ _ 0 h
theorem atS_lt {l : List Sc} {nm : ByteArray} : atS l nm < l.length := by
  unfold atS
  have : ∀ (ns : List ByteArray) (i : Nat), nameFrom nm ns i < ((i + ns.length : Nat) : Int) ∨ nameFrom nm ns i = -1 := by
    intro ns
    induction ns with
    | nil => intro i; right; rfl
    | cons y r ih =>
      intro i
      unfold nameFrom
      split
      · left; simp; omega
      · rcases ih (i + 1) with h | h
        · left; simp at h ⊢; omega
        · right; exact h
  have := this (l.map Sc.nm) 0
  rw [List.length_map] at this
  omega
theorem from_is (nm : ByteArray) : ∀ (ns : List ByteArray) (i j : Nat), nameFrom nm ns i = ((i + j : Nat) : Int) → ns[j]? = some nm
  | [], i, j, h => by unfold nameFrom at h; omega
  | y :: r, i, j, h => by
    unfold nameFrom at h
    split at h
    · rename_i e
      have : j = 0 := by omega
      subst this; simp [e]
    · cases j with
      | zero =>
        exfalso
        by_cases hm : nm ∈ r
        · have := from_ge nm r (i + 1) hm; omega
        · have := from_neg nm r (i + 1) hm; omega
      | succ j =>
        have := from_is nm r (i + 1) j (by rw [h]; omega)
        simpa using this
theorem atS_is {l : List Sc} {nm : ByteArray} {j : Nat} (h : atS l nm = (j : Int)) : ∃ s, l[j]? = some s ∧ s.nm = nm := by
  have := from_is nm (l.map Sc.nm) 0 j (by unfold atS at h; rw [h]; omega)
  rw [List.getElem?_map] at this
  cases hl : l[j]? with
  | none => rw [hl] at this; cases this
  | some s => rw [hl] at this; exact ⟨s, rfl, by simpa using this⟩
theorem check_parts0 {l : List Sc} (h : checkS l = 0) : (1 ≤ l.length ∧ l.length ≤ 8) ∧ (∀ s ∈ l, mayB s = true) ∧ (l.map Sc.nm).Nodup := by
  unfold checkS at h
  split at h
  · rename_i ho
    simp only [okS, Bool.and_eq_true, decide_eq_true_eq, List.all_eq_true] at ho
    exact ho
  · omega
theorem check_of {l : List Sc} (h : (1 ≤ l.length ∧ l.length ≤ 8) ∧ (∀ s ∈ l, mayB s = true) ∧ (l.map Sc.nm).Nodup) : checkS l = 0 := by
  unfold checkS
  rw [if_pos]
  simp only [okS, Bool.and_eq_true, decide_eq_true_eq, List.all_eq_true]
  exact h
theorem check_two (l : List Sc) : checkS l = 0 ∨ checkS l = 50 := by unfold checkS; split <;> simp
theorem nodup_rev {l : List ByteArray} : l.reverse.Nodup ↔ l.Nodup := (List.reverse_perm l).nodup_iff
theorem check_reverse (l : List Sc) : checkS l.reverse = checkS l := by
  unfold checkS
  have : okS l.reverse = okS l := by
    rw [Bool.eq_iff_iff]
    simp only [okS, Bool.and_eq_true, decide_eq_true_eq, List.all_eq_true, List.length_reverse, List.mem_reverse, List.map_reverse, nodup_rev]
  rw [this]
theorem check_drop {l : List Sc} (h : checkS l = 0) (h2 : 2 ≤ l.length) : checkS (l.take (l.length - 1)) = 0 := by
  obtain ⟨h3, h4, h5⟩ := check_parts0 h
  refine check_of ⟨by rw [List.length_take]; omega, fun s hs => h4 s (List.mem_of_mem_take hs), ?_⟩
  rw [List.map_take]
  exact h5.sublist (List.take_sublist _ _)
theorem row_cons {c : Cl} {cs : List Cl} {v : Vl} {r : Rw} (h1 : fitB c.kd v = true) (h2 : rowB cs r = true) : rowB (c :: cs) (v :: r) = true := by
  simp only [rowB, decide_eq_true_eq] at h2 ⊢
  refine ⟨by simp [h2.1], fun j hj => ?_⟩
  cases j with
  | zero => simpa using h1
  | succ j => simpa using h2.2 j (by simpa using hj)
theorem row_append {cs ds : List Cl} {r q : Rw} (h1 : rowB cs r = true) (h2 : rowB ds q = true) : rowB (cs ++ ds) (r ++ q) = true := by
  induction cs generalizing r with
  | nil =>
    simp only [rowB, decide_eq_true_eq] at h1
    have : r = [] := List.eq_nil_of_length_eq_zero h1.1
    subst this; exact h2
  | cons c cs ih =>
    cases r with
    | nil => simp only [rowB, decide_eq_true_eq] at h1; simp at h1
    | cons v r =>
      simp only [rowB, decide_eq_true_eq] at h1
      refine row_cons (by simpa using h1.2 0 (by simp)) (ih ?_)
      simp only [rowB, decide_eq_true_eq]
      exact ⟨by simpa using h1.1, fun j hj => by simpa using h1.2 (j + 1) (by simpa using hj)⟩
theorem table_ok {s : Sc} {p : Pt} {v : Vl} (hs : mayB s = true) (hp : fitP s p = true) (hv : fitB 1 v = true) : checkV (colsS s) [v :: (p.ks ++ p.vs)] = 0 := by
  simp only [fitP, Bool.and_eq_true] at hp
  have hr : rowB (colsS s) (v :: (p.ks ++ p.vs)) = true := row_cons hv (row_append hp.1 hp.2.1)
  have hc : colsB (colsS s) = true := by
    rw [← one_may] at hs
    simp only [oneB, Bool.and_eq_true, decide_eq_true_eq, colsB_iff, List.all_eq_true] at hs
    rw [colsB_iff]
    obtain ⟨⟨_, h2, h3⟩, h4, _, _, h7, h8⟩ := hs
    refine ⟨by simp [colsS]; omega, ?_, ?_⟩
    · intro c hc
      rcases List.mem_cons.1 hc with rfl | hc
      · exact ⟨by decide, by decide, by decide⟩
      · exact h7 c hc
    · rw [colsS, List.map_cons, List.nodup_cons]
      refine ⟨fun hm => ?_, h8⟩
      obtain ⟨c, hc, e⟩ := List.mem_map.1 hm
      exact word_time (h4 c hc) e.symm
  unfold checkV
  rw [if_pos hc, if_pos]
  simp [hr]
end Go.Proofs.Ytjfholofgohcjaa
namespace Go.Proofs.Ytjfholofgohcjaa
open Go.RowKit Go.Sort Go.Shelf

structure Sh where
  nm : ByteArray
  kv : Value
  vv : Value
instance : Inhabited Sh := ⟨⟨⟨#[]⟩, .slice none 0 0, .slice none 0 0⟩⟩
def Sh.cells (h : Sh) : List Value := [.string h.nm, h.kv, h.vv]
theorem sh_len (h : Sh) : h.cells.length = 3 := rfl
structure ShIs (w : World) (h : Sh) (s : Sc) : Prop where
  nm : h.nm = s.nm
  ks : ColsAt w h.kv s.ks
  vs : ColsAt w h.vv s.vs
theorem ShIs.on {w w' : World} {h : Sh} {s : Sc} (x : ShIs w h s) (hb : Below w.heap.size w w') : ShIs w' h s := ⟨x.nm, x.ks.on hb, x.vs.on hb⟩
/- One header a schema. -/
def HeadsS (w : World) (hs : List Sh) (l : List Sc) : Prop := hs.length = l.length ∧ ∀ (j : Nat) h s, hs[j]? = some h → l[j]? = some s → ShIs w h s
theorem HeadsS.on {w w' : World} {hs : List Sh} {l : List Sc} (h : HeadsS w hs l) (hb : Below w.heap.size w w') : HeadsS w' hs l := ⟨h.1, fun j x s h1 h2 => (h.2 j x s h1 h2).on hb⟩
theorem HeadsS.take {w : World} {hs : List Sh} {l : List Sc} (h : HeadsS w hs l) (m : Nat) : HeadsS w (hs.take m) (l.take m) := by
  refine ⟨by rw [List.length_take, List.length_take, h.1], fun j x s h1 h2 => ?_⟩
  rw [List.getElem?_take] at h1 h2
  split at h1
  · rename_i hj
    rw [if_pos hj] at h2
    exact h.2 j x s h1 h2
  · cases h1
def SchsAt (w : World) (v : Value) (l : List Sc) : Prop := ∃ hs, SlAt any Sh.cells 3 w v hs ∧ HeadsS w hs l
theorem SchsAt.on {w w' : World} {v : Value} {l : List Sc} (h : SchsAt w v l) (hb : Below w.heap.size w w') : SchsAt w' v l := let ⟨hs, h1, h2⟩ := h; ⟨hs, h1.on hb, h2.on hb⟩
def ScAt (w : World) (v : Value) (s : Sc) : Prop := ∃ kv vv, v = .agg #[.string s.nm, kv, vv] ∧ ColsAt w kv s.ks ∧ ColsAt w vv s.vs
theorem ScAt.on {w w' : World} {v : Value} {s : Sc} (h : ScAt w v s) (hb : Below w.heap.size w w') : ScAt w' v s := let ⟨k, u, h0, h1, h2⟩ := h; ⟨k, u, h0, h1.on hb, h2.on hb⟩
def PtAt (w : World) (v : Value) (p : Pt) : Prop := ∃ kv vv, v = .agg #[.string p.sc, kv, .int .i64 p.tm, vv] ∧ RowAt w kv p.ks ∧ RowAt w vv p.vs
theorem PtAt.on {w w' : World} {v : Value} {p : Pt} (h : PtAt w v p) (hb : Below w.heap.size w w') : PtAt w' v p := let ⟨k, u, h0, h1, h2⟩ := h; ⟨k, u, h0, h1.on hb, h2.on hb⟩
structure ShCells (w : World) (b o : Nat) (h : Sh) : Prop where
  c0 : w.cell? ⟨b, o, none⟩ = some (.string h.nm)
  c1 : w.cell? ⟨b, o + 1, none⟩ = some h.kv
  c2 : w.cell? ⟨b, o + 2, none⟩ = some h.vv
theorem sh_cells {w : World} {b o : Nat} {h : Sh} (x : CellsAt w b o h.cells) : ShCells w b o h := ⟨x 0 _ rfl, x 1 _ rfl, x 2 _ rfl⟩
theorem heads_names {w : World} {hs : List Sh} {l : List Sc} (h : HeadsS w hs l) : hs.map Sh.nm = l.map Sc.nm := by
  apply List.ext_getElem
  · rw [List.length_map, List.length_map, h.1]
  · intro i h1 h2
    rw [List.getElem_map, List.getElem_map]
    have h1' : i < hs.length := by simpa using h1
    have h2' : i < l.length := by simpa using h2
    exact (h.2 i _ _ (List.getElem?_eq_getElem h1') (List.getElem?_eq_getElem h2')).nm
theorem findS_from (nm : ByteArray) : ∀ (hs : List Sh) (i : Nat), Lib.idxByFrom (fun _ (y : Sh) => decide (y.nm = nm)) default hs i = nameFrom nm (hs.map Sh.nm) i
  | [], _ => rfl
  | y :: r, i => by
    unfold Lib.idxByFrom
    rw [findS_from nm r (i + 1), List.map_cons]
    show _ = if y.nm = nm then (i : Int) else nameFrom nm (r.map Sh.nm) (i + 1)
    by_cases h : y.nm = nm <;> simp [h]
theorem heads_at {w : World} {hs : List Sh} {l : List Sc} (h : HeadsS w hs l) (nm : ByteArray) : Lib.idxBy (fun _ (y : Sh) => decide (y.nm = nm)) hs default = atS l nm := by
  unfold atS
  rw [← heads_names h]
  exact findS_from nm hs 0
theorem ret_int' {a b : Int} (h : a = b) : Ending.returned (.int .i64 a) = .returned (.int .i64 b) := by rw [h]
end Go.Proofs.Ytjfholofgohcjaa
namespace Go.Proofs.Ytjfholofgohcjaa
open Go.RowKit Go.Sort Go.Shelf

theorem idx_hash : ∀ l : List UInt8, decide (0 ≤ Lib.indexByte l 35) = decide ((35 : UInt8) ∈ l)
  | [] => by decide
  | b :: l => by
    have ih := idx_hash l
    have h2 : -1 ≤ Lib.indexByte l 35 := by
      have : ∀ l : List UInt8, -1 ≤ Lib.indexByte l 35 := by
        intro l
        induction l with
        | nil => decide
        | cons b l ih => unfold Lib.indexByte; split <;> (try split) <;> omega
      exact this l
    rw [Bool.eq_iff_iff] at ih ⊢
    simp only [decide_eq_true_eq, List.mem_cons] at ih ⊢
    unfold Lib.indexByte
    by_cases hb : b = 35
    · subst hb; simp
    · rw [if_neg (by simpa using hb)]
      have hb' : ¬ (35 : UInt8) = b := fun e => hb e.symm
      by_cases h3 : Lib.indexByte l 35 = -1
      · rw [if_pos (by simpa using h3)]
        rw [h3] at ih
        constructor
        · intro h; omega
        · rintro (h | h)
          · exact absurd h hb'
          · have := ih.2 h; omega
      · rw [if_neg (by simpa using h3)]
        constructor
        · intro _; exact .inr (ih.1 (by omega))
        · intro _; omega
theorem contains_hash (s : ByteArray) (w : World) : Calls Try.prog 81 #[.string s, .string ⟨#[35]⟩] w fun e w' => e = .returned (.bool (hashB s)) ∧ w' = w := by
  have h := Try.strings_Contains_one s 35 w
  rw [idx_hash] at h
  exact h
theorem takenB_eq (s : ByteArray) : takenB s = (s.toList == ([102, 101, 116, 99, 104] : List UInt8) || (s.toList == ([102, 114, 111, 109] : List UInt8) || (s.toList == ([116, 111] : List UInt8) || (s.toList == ([119, 104, 101, 114, 101] : List UInt8) || (s.toList == ([107, 101, 101, 112] : List UInt8) || (s.toList == ([97, 108, 105, 103, 110] : List UInt8) || (s.toList == ([103, 114, 111, 117, 112] : List UInt8) || (s.toList == ([116, 111, 112] : List UInt8) || (s.toList == ([98, 121] : List UInt8) || (s.toList == ([106, 111, 105, 110] : List UInt8) || (s.toList == ([117, 110, 105, 111, 110] : List UInt8) || (s.toList == ([97, 110, 100] : List UInt8) || (s.toList == ([111, 114] : List UInt8) || (s.toList == ([110, 111, 116] : List UInt8) || (s.toList == ([104, 97, 115] : List UInt8) || (s.toList == ([116, 114, 117, 101] : List UInt8) || (s.toList == ([102, 97, 108, 115, 101] : List UInt8) || (s.toList == ([99, 111, 117, 110, 116] : List UInt8) || (s.toList == ([115, 117, 109] : List UInt8) || (s.toList == ([109, 105, 110] : List UInt8) || (s.toList == ([109, 97, 120] : List UInt8) || (s.toList == ([109, 101, 97, 110] : List UInt8) || (s.toList == ([109, 101, 114, 103, 101] : List UInt8) || (s.toList == ([116, 105, 109, 101] : List UInt8) || false)))))))))))))))))))))))) := by
  have e : ∀ t : ByteArray, decide (t = s) = (s.toList == t.data.toList) := fun t => by rw [← ByteArray.toList_eq, bytes_beq]; exact decide_eq_decide.2 eq_comm
  simp only [takenB, taken, List.any_cons, List.any_nil, e]
set_option maxHeartbeats 8000000 in
theorem taken_any {s : ByteArray} {w : World} : Calls Try.prog 82 #[.string s] w fun e w' => e = .returned (.bool (takenB s)) ∧ w' = w := by
  generalize hr : takenB s = r
  have HR := hid hr
  clear hr
  go_enter Try.func82, Try.ntmps82
  go_wp2
  all_goals
    go_ret
    refine ⟨ret_bool ?_, rfl⟩
    rw [← HR.out, takenB_eq]
    clear HR
    first | (simp [*]; done) | (simp_all; done)
end Go.Proofs.Ytjfholofgohcjaa
