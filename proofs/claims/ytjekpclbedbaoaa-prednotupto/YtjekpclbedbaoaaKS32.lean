/-
  SortStableFunc: the row is sorted, those that are the same as they stood.
  The comparison by which Top sorts.
  rowops' run: what the steps have in common.
  Top's step: canonical order, the stable sort, the first rows.
  Top's step, walked.
  What Top tells.
  Align's step: rows of one's own, their times laid down.
  Where's rows lie in blocks of their own that may be written.
  The reference's Holds as mathematics.
  The reference's part: a text within a text.
-/
import Derived.Test.YtjekpclbedbaoaaKS13
import Derived.Test.YtjekpclbedbaoaaKS14
import Derived.Test.YtjekpclbedbaoaaKS18
import Derived.Test.YtjekpclbedbaoaaKS19
import Derived.Test.YtjekpclbedbaoaaKS20
import Derived.Test.YtjekpclbedbaoaaKS22
import Derived.Test.YtjekpclbedbaoaaKS24
import Derived.Test.YtjekpclbedbaoaaKS25
import Derived.Test.YtjekpclbedbaoaaKS26
import Derived.Test.YtjekpclbedbaoaaKS31
import Derived.Laws.EntriesVeiled
namespace Go.Proofs.Ytjekpclbedbaoaa.SS
open Go.RowKit Go.Joins Go.Sort

end Go.Proofs.Ytjekpclbedbaoaa.SS
namespace Go.Proofs.Ytjekpclbedbaoaa.RO
open Go.RowKit Go.Joins Go.Sort

theorem cmp_is (x y : TN.Vl) {w : World} : Calls Try.prog 100 #[x.val, y.val] w fun e w' => e = .returned (.int .i64 (TN.cmpL x y)) ∧ TN.Grew w w' := TN.compare_any
theorem vals_regrown {w : World} {b o : Nat} {v : TN.Vl} (h : TN.CellsAt w b o v.cells) (d : Nat) (os : Array Obj) : TN.ValCells (grow (redrawn w d) os) b o v := TN.val_cells (h.on (below_regrown w d os))
theorem row_at {w : World} {v : Value} {r : TN.Rw} (h : TN.RowAt w v r) {p : Nat} (hp : p < r.length) : ∃ b o c, v = .slice (some ⟨b, o, none⟩) r.length c ∧ TN.CellsAt w b (o + p * 11) (key p r).cells := by
  obtain ⟨q, c, rfl, -, -, hx⟩ := h
  obtain ⟨b, o, rfl, -, hj⟩ := hx (by intro e; subst e; simp at hp)
  refine ⟨b, o, c, rfl, ?_⟩
  have := hj p r[p] (List.getElem?_eq_getElem hp)
  unfold key
  rwa [List.getD_eq_getElem?_getD, List.getElem?_eq_getElem hp]
end Go.Proofs.Ytjekpclbedbaoaa.RO
namespace Go.Proofs.Ytjekpclbedbaoaa.RO
open Go.RowKit Go.Joins Go.Sort

def runE (cs : List TN.Cl) (rs : List TN.Rw) (mb : Bool) : Int := if TN.checkV cs rs = 0 then if mb = true then 0 else 1 else TN.checkV cs rs
def okE (cs : List TN.Cl) (rs : List TN.Rw) (mb : Bool) : Bool := decide (TN.checkV cs rs = 0) && mb
/- A table that is told beside an error's number: none where there is an error. -/
def TabE (b : Bool) (w w' : World) (v : Value) (cs : List TN.Cl) (rs : List TN.Rw) : Prop := TN.TabIn (fun k => w.heap.size ≤ k) w' v (if b then cs else []) (if b then rs else [])
theorem TabE.no {w w' : World} (cs : List TN.Cl) (rs : List TN.Rw) : TabE false w w' (.agg #[.slice none 0 0, .slice none 0 0]) cs rs := ⟨_, _, rfl, TN.SlAt.nil _ _ _ _, [], TN.SlAt.nil _ _ _ _, rfl, fun j h r h1 => by simp at h1⟩
end Go.Proofs.Ytjekpclbedbaoaa.RO
namespace Go.Proofs.Ytjekpclbedbaoaa.RO
open Go.RowKit Go.Joins Go.Sort

theorem rowKp {Q T : Nat → Prop} {w w' : World} {v : Value} {r : TN.Rw} (h : TN.RowIn Q w v r) (hk : Kp T w w') (ht : ∀ b, Q b → ¬ T b) : TN.RowIn Q w' v r := by
  obtain ⟨p, cap, hv, hc, hm, hx⟩ := h
  exact ⟨p, cap, hv, hc, hm, fun hne => let ⟨b, o, hp, hQ, hj⟩ := hx hne; ⟨b, o, hp, hQ, fun j x hjx i u hu => hk.cell (hj j x hjx i u hu) (ht b hQ.1)⟩⟩
/- The rows of a sorted row of heads, the first m of them. -/
theorem rf_tab {Q : Nat → Prop} {hs : List Value} {S : List TN.Rw} {B k m p : Nat} {g : Nat → Nat} {w : World} (hS : TN.upR S) (hh : TN.HeadsIn Q w hs S) (hr : SS.Rf (TN.encH hs) B k g w) (hk : S.length = k) (hp : SS.Pm 0 k id g) (hu : SS.up (cAt p S) g 0 k) (hm : m ≤ k) (hb : k * 24 ≤ 140737488355328) : TN.RowsAt w (.slice (some ⟨B, 0, none⟩) m k) ((topL p S).take m) := by
  subst hk
  have e : (topL p S).take m = (List.range m).map (fun i => row S (g i)) := by
    rw [← sorted_top hS hp hu, ← List.map_take, List.take_range, Nat.min_eq_left hm]
  rw [e]
  refine ⟨(List.range m).map (fun i => TN.encH hs (g i)), ⟨some ⟨B, 0, none⟩, S.length, by simp, ⟨by simpa using hm, fun e => by cases e⟩, by simp only [List.length_map, List.length_range]; unfold maxLen; omega, fun _ => ⟨B, 0, rfl, ⟨trivial, by simp only [List.length_map, List.length_range]; unfold TN.bsz; rw [if_neg (by decide)]; omega⟩, fun j x hj i u hu => ?_⟩⟩, by simp, fun j x r h1 h2 => ?_⟩
  · rw [List.getElem?_map] at hj
    obtain ⟨y, hy, rfl⟩ := Option.map_eq_some_iff.1 hj
    have hjm : j < m := by have := (List.getElem?_eq_some_iff.1 hy).1; simpa using this
    rw [List.getElem?_range hjm] at hy
    cases hy
    match i, hu with
    | 0, hu =>
      simp [TN.one] at hu
      subst hu
      have := hr.cell (i := j) (by omega)
      simpa using this
    | i + 1, hu => simp [TN.one] at hu
  · rw [List.getElem?_map] at h1 h2
    obtain ⟨y, hy, rfl⟩ := Option.map_eq_some_iff.1 h1
    obtain ⟨y', hy', rfl⟩ := Option.map_eq_some_iff.1 h2
    rw [hy] at hy'
    cases hy'
    exact (TN.heads_get hh (g y)).imp fun _ _ => trivial
theorem rows_len {cs : List TN.Cl} {rs : List TN.Rw} (h : TN.checkV cs rs = 0) : cs.length ≤ 16 ∧ ∀ r ∈ rs, r.length = cs.length := by
  unfold TN.checkV at h
  by_cases h1 : TN.colsB cs = true
  · rw [if_pos h1] at h
    by_cases h2 : rs.all (TN.rowB cs) = true
    · refine ⟨?_, fun r hr => ?_⟩
      · unfold TN.colsB at h1; exact (of_decide_eq_true h1).1.2
      · have := List.all_eq_true.1 h2 r hr
        unfold TN.rowB at this; exact (of_decide_eq_true this).1
    · rw [if_neg h2] at h; omega
  · rw [if_neg h1] at h; omega
theorem sls_of {Q : Nat → Prop} {hs : List Value} {S : List TN.Rw} {w : World} (hh : TN.HeadsIn Q w hs S) : SS.Sls (TN.encH hs) := fun i => by
  obtain ⟨q, c, e, -⟩ := TN.heads_get hh i
  exact ⟨q, _, c, e⟩
theorem rf_start {hs : List Value} {B k : Nat} {w : World} (h : w.heap[B]? = some (.cells hs.toArray 48 (0, 0))) (hk : hs.length = k) : SS.Rf (TN.encH hs) B k id w := by
  subst hk
  refine ⟨hs.toArray, h, by simp, fun i hi => ?_⟩
  unfold TN.encH
  rw [List.getD_eq_getElem?_getD, List.getElem?_toArray, id, List.getElem?_eq_getElem hi]; rfl
end Go.Proofs.Ytjekpclbedbaoaa.RO
namespace Go.Proofs.Ytjekpclbedbaoaa.RO
open Go.RowKit Go.Joins Go.Sort

theorem headsLow {Q : Nat → Prop} {w : World} {hs : List Value} {rs : List TN.Rw} (h : TN.HeadsIn Q w hs rs) : TN.HeadsIn (fun b => Q b ∧ b < w.heap.size) w hs rs := ⟨h.1, fun j x r h1 h2 => TN.SlAt.lt (fun _ => rfl) (by decide) (h.2 j x r h1 h2)⟩
theorem headsKp {Q T : Nat → Prop} {w w' : World} {hs : List Value} {rs : List TN.Rw} (h : TN.HeadsIn Q w hs rs) (hk : Kp T w w') (ht : ∀ b, Q b → ¬ T b) : TN.HeadsIn Q w' hs rs := ⟨h.1, fun j x r h1 h2 => rowKp (h.2 j x r h1 h2) hk ht⟩
theorem colsKp {cs : List TN.Cl} {Q T : Nat → Prop} {w w' : World} {v : Value} (h : TN.SlAt Q TN.Cl.cells 2 w v cs) (hk : Kp T w w') (ht : ∀ b, Q b → ¬ T b) : TN.SlAt Q TN.Cl.cells 2 w' v cs := by
  obtain ⟨p, cap, hv, hc, hm, hx⟩ := h
  exact ⟨p, cap, hv, hc, hm, fun hne => let ⟨b, o, hp, hQ, hj⟩ := hx hne; ⟨b, o, hp, hQ, fun j x hjx i u hu => hk.cell (hj j x hjx i u hu) (ht b hQ.1)⟩⟩
end Go.Proofs.Ytjekpclbedbaoaa.RO
namespace Go.Proofs.Ytjekpclbedbaoaa.RO
open Go.RowKit Go.Joins Go.Sort

theorem tabE_set {b : Bool} {w w2 w3 : World} {v x y : Value} {cs : List TN.Cl} {rs : List TN.Rw} {R : Nat} (h : TabE b w2 w3 v cs rs) (hR : R < w2.heap.size) (hw : w.heap.size ≤ w2.heap.size) : TabE b w ((w3.setCell ⟨R, 0, none⟩ x).setCell ⟨R, 1, none⟩ y) v cs rs :=
  (TN.TabIn.set (fun b hb => by have : w2.heap.size ≤ b := hb; omega) (TN.TabIn.set (fun b hb => by have : w2.heap.size ≤ b := hb; omega) h)).imp (fun b hb => by have : w2.heap.size ≤ b := hb; omega)
theorem tabE_form {b : Bool} {w w' : World} {v : Value} {cs : List TN.Cl} {rs : List TN.Rw} (h : TabE b w w' v cs rs) : ∃ pc nc cc pr nr cr, v = .agg #[.slice pc nc cc, .slice pr nr cr] := by
  obtain ⟨c, r, rfl, ⟨p, cap, rfl, -⟩, hs, ⟨q, cq, rfl, -⟩, -⟩ := h
  exact ⟨_, _, _, _, _, _, rfl⟩
def kdOf (cs : List TN.Cl) (i : Int) : Int := (cs.getD i.toNat default).kd
def topB (cs : List TN.Cl) (n : Int) (nm : ByteArray) : Bool := decide (1 ≤ n ∧ n ≤ 1000 ∧ 0 ≤ TN.findC cs nm ∧ kdOf cs (TN.findC cs nm) ≠ 4)
end Go.Proofs.Ytjekpclbedbaoaa.RO
namespace Go.Proofs.Ytjekpclbedbaoaa.RO
open Go.RowKit Go.Joins Go.Sort

/- A row whose place p is laid down to a multiple of a width. -/
def setN (p : Nat) (m : Int) (r : TN.Rw) : TN.Rw := r.set p { key p r with n := m }
def alR (p : Nat) (wd : Int) (r : TN.Rw) : TN.Rw := setN p (mulW (key p r).n wd) r
theorem own_parts {B e : Nat} {w : World} {v : Value} {r : TN.Rw} (h : TN.Own TN.Vl.cells 11 e B w v r) (hne : r ≠ []) : ∃ g c cur, v = .slice (some ⟨g, 0, none⟩) r.length c ∧ B ≤ g ∧ w.heap[g]? = some (.cells cur e (0, 0)) := by
  rcases h.2 with ⟨-, h0⟩ | ⟨g, cap, cur, hv, hg, hblk, hc, hm, hs, ht⟩
  · exact absurd (List.length_eq_zero_iff.1 h0) hne
  · exact ⟨g, cap, cur, hv, hg, hblk⟩
set_option maxHeartbeats 400000 in
theorem cloneOwn_any {u : Value} {r : TN.Rw} {w : World} (hu : TN.RowAt w u r) :
    Calls Try.prog 33 #[u] w fun e w' => ∃ v', e = .returned v' ∧ TN.Own TN.Vl.cells 11 40 w.heap.size w' v' r ∧ Below w.heap.size w w' := by
  have HU := hid hu
  obtain ⟨p, cap, rfl, hcap, hmax, hx⟩ := hu
  clear hcap hmax hx
  generalize List.length r = n at *
  have q22 : ∀ (w : World) (a : Option Addr) (n c n' c' : Nat), (binOp .eql 48 (.slice a n c) (.slice none n' c')).run Try.prog w = .ok (.bool a.isNone) w := fun w a n c n' c' => Lib.run_eql_slice_nil w _ _ a n c n' c' Try.underlying48
  cases p with
  | none =>
    have hn := TN.SlAt.empty HU.out
    subst hn
    go_enter Try.func33, Try.ntmps33
    go_wp2
    go_ret
    exact ⟨_, rfl, TN.Own.nil _ _ _ _ _, Below.refl _ _⟩
  | some ad =>
    go_enter Try.func33, Try.ntmps33
    go_wp2_with (at_builtin; refine TN.app_any TN.elem48 TN.vl_len (fun x _ => TN.vl_cells x) rfl _ _ rfl rfl (TN.Own.made TN.Vl.cells 11 40 w.heap.size w (Nat.le_refl _)) rfl (TN.SlAt.on HU.out ((Below.refl _ _).alloc (Nat.le_refl _) _)) (by simpa using TN.SlAt.bound HU.out) (by simp) ?_; intro v' w1 hown hb1)
    go_ret
    exact ⟨_, rfl, by rw [List.nil_append] at hown; exact hown, ((Below.refl _ _).alloc (Nat.le_refl _) _).trans hb1⟩
/- One value's number set in a row of one's own. -/
theorem row_set {w : World} {g n c p : Nat} {r : TN.Rw} {m : Int} (h : TN.RowIn (fun b => b = g) w (.slice (some ⟨g, 0, none⟩) n c) r) (hp : p < r.length) : TN.RowIn (fun b => b = g) (w.setCell ⟨g, p * 11 + 1, none⟩ (.int .i64 m)) (.slice (some ⟨g, 0, none⟩) n c) (setN p m r) := by
  obtain ⟨q, cap, e, hc, hm, hx⟩ := h
  cases e
  have hl : (setN p m r).length = r.length := by unfold setN; rw [List.length_set]
  have hr : r ≠ [] := by intro e; subst e; simp at hp
  obtain ⟨b, o, e2, hQ, hj⟩ := hx hr
  cases e2
  have h1 := hj p r[p] (List.getElem?_eq_getElem hp) 1 _ rfl
  refine ⟨_, _, by rw [hl], by rw [hl]; exact hc, by rw [hl]; exact hm, fun _ => ⟨g, 0, rfl, ⟨rfl, by rw [hl]; exact hQ.2⟩, fun j x hjx i u hu => ?_⟩⟩
  unfold setN at hjx
  rw [List.getElem?_set] at hjx
  by_cases e : p = j
  · subst e
    rw [if_pos rfl, if_pos hp] at hjx
    cases hjx
    have hk : key p r = r[p] := by unfold key; rw [List.getD_eq_getElem?_getD, List.getElem?_eq_getElem hp]; rfl
    rw [hk] at hu
    by_cases e1 : i = 1
    · subst e1
      have hu' : Value.int .i64 m = u := by simpa [TN.Vl.cells] using hu
      subst hu'
      have := World.cell?_setCell_same w ⟨g, p * 11 + 1, none⟩ (.int .i64 m) (by simpa using h1)
      simpa using this
    · rw [World.cell?_setCell_other _ _ _ _ (by intro e'; simp only [Addr.mk.injEq] at e'; omega)]
      refine hj p r[p] (List.getElem?_eq_getElem hp) i u ?_
      match i, e1, hu with
      | 0, _, hu => exact hu
      | i + 2, _, hu => exact hu
  · rw [if_neg e] at hjx
    have hi : i < 11 := by have := (List.getElem?_eq_some_iff.1 hu).1; simpa [TN.Vl.cells] using this
    rw [World.cell?_setCell_other _ _ _ _ (by intro e'; simp only [Addr.mk.injEq] at e'; omega)]
    exact hj j x hjx i u hu
end Go.Proofs.Ytjekpclbedbaoaa.RO
namespace Go.Proofs.Ytjekpclbedbaoaa.PD
open Go.RowKit Go.Joins

def Wq (B : Nat) (w : World) (v h : Value) (r : TN.Rw) : Prop := r ≠ [] → ∃ g c cur, h = .slice (some ⟨g, 0, none⟩) r.length c ∧ B ≤ g ∧ v.ownBlock ≠ some g ∧ w.heap[g]? = some (.cells cur 40 (0, 0)) ∧ r.length * 11 ≤ cur.size
theorem Wq.kp {B : Nat} {w w' : World} {v h : Value} {r : TN.Rw} {T : Nat → Prop} (hh : Wq B w v h r) (hk : Kp T w w') (hT : ∀ b, T b → b < B ∨ v.ownBlock = some b) : Wq B w' v h r := fun hr => by
  obtain ⟨g, c, cur, e, h1, h2, h3, h4⟩ := hh hr
  exact ⟨g, c, cur, e, h1, h2, hk.blk h3 (fun t => by rcases hT g t with h | h; omega; exact h2 h), h4⟩
theorem Wq.on {B : Nat} {w w' : World} {v h : Value} {r : TN.Rw} (hh : Wq B w v h r) (hb : Below w.heap.size w w') : Wq B w' v h r := hh.kp (T := fun _ => False) (Kp.of hb) (fun _ e => e.elim)
theorem own_wr {B b0 : Nat} {w : World} {v h : Value} {r : TN.Rw} (ho : TN.Own TN.Vl.cells 11 40 b0 w h r) (hB : B ≤ b0) (hv : ∀ g, v.ownBlock = some g → g < b0) : Wq B w v h r := fun hr => by
  rcases ho.2 with ⟨-, h0⟩ | ⟨g, cap, cur, e, hg, hblk, hc, hm, hs, ht⟩
  · exact absurd (List.length_eq_zero_iff.1 h0) hr
  · exact ⟨g, cap, cur, e, by omega, fun e => by have := hv g e; omega, hblk, by rw [hs]; exact Nat.mul_le_mul_right _ hc⟩
structure Wr (B : Nat) (w : World) (v : Value) (hs : List Value) (rs : List TN.Rw) : Prop where
  row : ∀ (j : Nat) h r, hs[j]? = some h → rs[j]? = some r → Wq B w v h r
theorem Wr.nil (B : Nat) (w : World) (v : Value) (rs : List TN.Rw) : Wr B w v [] rs := ⟨fun j h r e => by simp at e⟩
theorem Wr.kp {B : Nat} {w w' : World} {v : Value} {hs : List Value} {rs : List TN.Rw} {T : Nat → Prop} (h : Wr B w v hs rs) (hk : Kp T w w') (hT : ∀ b, T b → b < B ∨ v.ownBlock = some b) : Wr B w' v hs rs := ⟨fun j x r h1 h2 => (h.row j x r h1 h2).kp hk hT⟩
theorem Wr.on {B : Nat} {w w' : World} {v : Value} {hs : List Value} {rs : List TN.Rw} (h : Wr B w v hs rs) (hb : Below w.heap.size w w') : Wr B w' v hs rs := h.kp (T := fun _ => False) (Kp.of hb) (fun _ e => e.elim)
theorem Wr.le {B B' : Nat} {w : World} {v : Value} {hs : List Value} {rs : List TN.Rw} (h : Wr B w v hs rs) (hB : B' ≤ B) : Wr B' w v hs rs := ⟨fun j x r h1 h2 hr => by obtain ⟨g, c, cur, e, p1, p2⟩ := h.row j x r h1 h2 hr; exact ⟨g, c, cur, e, by omega, p2⟩⟩
theorem Wr.app {B : Nat} {w w' : World} {v v' x : Value} {hs : List Value} {rs : List TN.Rw} {r : TN.Rw} (h : Wr B w v hs rs) (hl : hs.length = rs.length) (hx : Wq B w v x r) (hg : w.grownBy w' v.ownBlock) (ha : At w v v') : Wr B w' v' (hs ++ [x]) (rs ++ [r]) := by
  have hk : Kp (fun b => v.ownBlock = some b) w w' := Kp.grown hg (fun b e => e)
  have key : ∀ {y : Value} {r : TN.Rw}, Wq B w v y r → Wq B w' v' y r := fun hy hr => by
    obtain ⟨g, c, cur, e, h1, h2, h3, h4⟩ := hy hr
    exact ⟨g, c, cur, e, h1, fun e' => by rcases ha g e' with q | q; exact h2 q; (have := lt_of_block h3; omega), hk.blk h3 (fun t => h2 t), h4⟩
  refine ⟨fun j y r' h1 h2 => ?_⟩
  rcases Nat.lt_or_ge j hs.length with hj | hj
  · rw [List.getElem?_append_left hj] at h1
    rw [List.getElem?_append_left (by omega)] at h2
    exact key (h.row j y r' h1 h2)
  · rw [List.getElem?_append_right hj] at h1
    rw [List.getElem?_append_right (by omega)] at h2
    have e : j - hs.length = 0 := by
      rcases Nat.eq_zero_or_pos (j - hs.length) with e | e
      · exact e
      · rw [List.getElem?_eq_none (by simp; omega)] at h1; cases h1
    have e2 : j - rs.length = 0 := by omega
    rw [e] at h1; rw [e2] at h2
    simp at h1 h2
    subst h1 h2
    exact key hx
def WhW (cs : List TN.Cl) (rs : List TN.Rw) (w : World) (x : Ending) (w' : World) : Prop := ∃ cv rv hs, x = .returned (.agg #[cv, rv]) ∧ TN.SlAt (fun b => w.heap.size ≤ b ∧ b < w'.heap.size) TN.Cl.cells 2 w' cv cs ∧ Rws w.heap.size w' rv hs rs ∧ Wr w.heap.size w' rv hs rs ∧ Below w.heap.size w w'
set_option maxRecDepth 100000 in
set_option maxHeartbeats 4000000 in
theorem where_own_in {n : Nat} {nv cv rv : Value} {qs : List Nx} {cs : List TN.Cl} {rs : List TN.Rw} {hs : List Value} {w : World} (hq : Qx (fun b => b < w.heap.size) w nv qs) (hn : n < qs.length) (hl : qs.length ≤ 1000) (hc : TN.ColsAt w cv cs) (hr : TN.SlAt TN.any TN.one 1 w rv hs) (hh : TN.HeadsIn TN.any w hs rs) (hM : Mx w) (hz : ∀ q ∈ qs, q.np.kind = 15 → ∀ r ∈ rs, Rsz r) (hrl : rs.length ≤ 1000000) : Calls Try.prog 14 #[.agg #[cv, rv], .agg #[nv], .int .i64 (n : Int)] w (WhW cs (rs.filter (holdsX cs qs n)) w) := by
  obtain ⟨pn, cn, rfl, -, -⟩ := hq.sl.form
  obtain ⟨pc, cc, hpc, -⟩ := id hc
  obtain ⟨pr, cr, hpr, -⟩ := id hr
  subst hpc hpr
  obtain ⟨W, hW⟩ : ∃ W, W = ((w.alloc (.cells #[.slice pc cs.length cc, .slice pr hs.length cr] 25)).alloc (.cells #[.slice pn qs.length cn] 34)).alloc (.cells #[.slice none 0 0, .slice none 0 0] 25) := ⟨_, rfl⟩
  have hb1 : Below w.heap.size w (w.alloc (.cells #[.slice pc cs.length cc, .slice pr hs.length cr] 25)) := (Below.refl _ _).alloc (Nat.le_refl _) _
  have hb2 : Below w.heap.size w W := by rw [hW]; exact (hb1.alloc hb1.size _).alloc (Nat.le_trans hb1.size (by simp)) _
  have hT : W.heap[w.heap.size]? = some (.cells #[.slice pc cs.length cc, .slice pr hs.length cr] 25 (0, 0)) := by
    rw [hW]
    exact block_on (block_on (alloc_block w _) ((Below.refl _ _).alloc (Nat.le_refl _) _)) ((Below.refl _ _).alloc (Nat.le_refl _) _)
  have hO : W.heap[w.heap.size + 1 + 1]? = some (.cells #[.slice none 0 0, .slice none 0 0] 25 (0, 0)) := by
    rw [hW]
    have := alloc_block ((w.alloc (.cells #[.slice pc cs.length cc, .slice pr hs.length cr] 25)).alloc (.cells #[.slice pn qs.length cn] 34)) (.cells #[.slice none 0 0, .slice none 0 0] 25)
    simpa using this
  have hN : W.heap[w.heap.size + 1]? = some (.cells #[.slice pn qs.length cn] 34 (0, 0)) := by
    rw [hW]
    have := alloc_block (w.alloc (.cells #[.slice pc cs.length cc, .slice pr hs.length cr] 25)) (.cells #[.slice pn qs.length cn] 34)
    exact block_on (by simpa using this) ((Below.refl _ _).alloc (Nat.le_refl _) _)
  have y0 : W.cell? ⟨w.heap.size, 0, none⟩ = some (.slice pc cs.length cc) := block_cell hT 0
  have y1 : W.cell? ⟨w.heap.size + 1, 0, none⟩ = some (.slice pn qs.length cn) := block_cell hN 0
  have HB := hid hb2
  have HCo := hid (tn_low hc (fun x => ⟨_, rfl⟩))
  have HRo := hid (tn_low hr (fun x => ⟨_, rfl⟩))
  have HRw : Hid (∀ (j : Nat) h r, hs[j]? = some h → rs[j]? = some r → TN.RowIn (fun b => b < w.heap.size) w h r) := fun j h r h1 h2 => row_lt (hh.2 j h r h1 h2)
  have HLn := hid hh.1
  have HN := hid (cnd_make (i := n) (qx_lt hq hb2) hn (by omega) (hc.on hb2))
  have HM := hid (hM.on hb2)
  have HP := hid (mx_pos hM)
  have HZ := hid hz
  have HRL := hid hrl
  have HT := hid hT
  have HO := hid hO
  have HW := hid hW
  have hbs := hb2.size
  clear hq hn hl hc hr hh hM hz hb1 hb2 hT hO hN hW
  go_enter Try.func14, Try.ntmps14
  go_upto_region 1 with fail
  rw [← HW.out]
  clear HW
  go_upto_region 3 with (go_at_call 32; refine HN.out.mono ?_; rintro e w1 ⟨hd, hvb, sb, ib, sg, sc, svs, ls, hs0, rfl, g1, g2, g3, g4, hb⟩; have HC1 := hid g1; have HD1 := hid g2; have HDl := hid g3; have HG1 := hid g4; have HBc := hid hb; clear g1 g2 g3 g4 hb)
  have HT1 := hid (block_on HT.out HBc.out)
  have HO1 := hid (block_on HO.out HBc.out)
  have HB1 : Hid (Below w.heap.size w w1) := HB.out.trans (HBc.out.mono hbs)
  have HM1 := hid (HM.out.on HBc.out)
  have hbc := HBc.out.size
  have y2 : w1.cell? ⟨w.heap.size, 1, none⟩ = some (.slice pr hs.length cr) := block_cell HT1.out 1
  obtain ⟨m, hm⟩ : ∃ m, hs.length = m := ⟨_, rfl⟩
  have HMm := hid hm
  have hml : m ≤ 1000000 := by have := HLn.out; have := HRL.out; omega
  rw [hm] at y2
  have HRo2 : Hid (TN.SlAt (fun b => b < w.heap.size) TN.one 1 w (.slice pr m cr) hs) := by rw [← hm]; exact HRo.out
  have mI : (m : Int) ≤ 1000000 := by omega
  clear HRo hm
  go_upto_region 4 with fail
  have HKb : Hid (∀ wr, Kp (fun b => b = hd) w1 wr → Below w.heap.size w wr) := fun wr hk => HB1.out.trans (hk.below (by omega) (fun b e => by have := HG1.out; omega))
  go_loopw [20, 8] (fun x v wr => ∃ k : Nat, k ≤ m ∧ x = .int .i64 k ∧ Hid (Kp (fun b => b = hd) w1 wr) ∧ Hid (∃ hb, Hd wr hd hb ∧ hb.length = n + 1) ∧ Hid (∃ hs', Rws w1.heap.size wr v hs' ((rs.take k).filter (holdsX cs qs n)) ∧ Wr w1.heap.size wr v hs' ((rs.take k).filter (holdsX cs qs n)))) (fun x _ _ => m - (intOf x).toNat)
  case atStart => exact ⟨0, by omega, rfl, Kp.refl _ _, ⟨hs0, HD1.out, HDl.out⟩, [], Rws.nil _ _, Wr.nil _ _ _ _⟩
  case round =>
    obtain ⟨k, hk, rfl, HK, HHd, HRs⟩ := hrel
    obtain ⟨hb, hH, hHl⟩ := HHd.out
    obtain ⟨hs', hRs, hWr⟩ := HRs.out
    obtain ⟨pv, cv', rfl⟩ := hRs.own.form
    have HBr := hid (HKb.out wr HK.out)
    have hd1 : hd < w1.heap.size := lt_of_block HD1.out
    have hgd := HG1.out
    by_cases hkm : k < m
    · have kI : (k : Int) < m := by omega
      have k0 : (0 : Int) ≤ k := by omega
      obtain ⟨h, hh⟩ : ∃ h, hs[k]? = some h := ⟨_, List.getElem?_eq_getElem (by have := HMm.out; omega)⟩
      obtain ⟨r, hrr⟩ : ∃ r, rs[k]? = some r := ⟨_, List.getElem?_eq_getElem (by have := HMm.out; have := HLn.out; omega)⟩
      have hrow := HRw.out k h r hh hrr
      obtain ⟨bh, oh, cellh⟩ : ∃ b o, pr = some ⟨b, o, none⟩ ∧ wr.cell? ⟨b, o + k, none⟩ = some h := by
        obtain ⟨p', c', e', -, -, hx⟩ := HRo2.out.on HBr.out
        cases e'
        obtain ⟨b, o, hp, -, hj⟩ := hx (by intro e; rw [e] at hh; simp at hh)
        exact ⟨b, o, hp, by have := hj k h hh 0 h rfl; simpa using this⟩
      obtain ⟨rfl, yh⟩ := cellh
      have hrr2 : TN.RowIn (fun b => b < w.heap.size) wr h r := hrow.on HBr.out
      obtain ⟨ph, ch, eh, -⟩ := id hrr2
      subst eh
      have HRun := hid (cond_run (HC1.out.kp HK.out HD1.out) hH hHl (hrr2.imp (fun b hb => by omega)) (mx_kp HM1.out HK.out (by have := HP.out; omega)) (by have := HP.out; omega) (fun q hq hk => HZ.out q hq hk r (List.mem_of_getElem? hrr)))
      have HX := hid hrr
      have HRs1 := hid hRs
      have HWr1 := hid hWr
      have HRw2 := hid hrr2
      have HFt := hid (filt_take (f := holdsX cs qs n) hrr)
      clear hH hHl hRs hWr hrow hrr hh hrr2 HHd HRs
      cases hb2 : holdsX cs qs n r with
      | false =>
        rw [hb2] at HRun
        rw [hb2, if_neg (by decide)] at HFt
        clear hb2
        go_wp2_with (go_at_call 62; refine HRun.out.mono ?_; rintro e w2 ⟨rfl, hk2, hh2⟩; have HK2 := hid hk2; have HH2 := hid hh2; clear hk2 hh2)
        go_roundw
        case rel => exact ⟨k + 1, by omega, by go_num, HK.out.trans HK2.out, HH2.out, hs', by rw [HFt.out]; exact HRs1.out.kp HK2.out (fun b e => by omega), by rw [HFt.out]; exact HWr1.out.kp HK2.out (fun b e => .inl (by omega))⟩
        case measure => simp [intOf]; omega
      | true =>
        rw [hb2] at HRun
        rw [hb2, if_pos rfl] at HFt
        clear hb2
        have hlv : hs'.length ≤ 1000000 := by
          rw [HRs1.out.len]
          exact Nat.le_trans (List.length_filter_le _ _) (by rw [List.length_take]; omega)
        go_wp2_with (first
          | (go_at_call 62; refine HRun.out.mono ?_; rintro e w2 ⟨rfl, hk2, hh2⟩; have HK2 := hid hk2; have HH2 := hid hh2; have HR2 := hid (HRs1.out.kp hk2 (fun b e => by omega)); have HWr2 := hid (HWr1.out.kp hk2 (fun b e => .inl (by omega))); have HW2 := hid (rowIn_kpT HRw2.out hk2 (fun b hb e => by omega)); clear hk2 hh2)
          | (go_at_call 33; refine (RO.cloneOwn_any (HW2.out.imp (fun _ _ => trivial))).mono ?_; rintro e w3 ⟨v3, rfl, hw3, hb3⟩; have h3 : TN.RowIn (fun b => w2.heap.size ≤ b) w3 v3 r := TN.Own.sl hw3 TN.vl_len (TN.SlAt.bound HW2.out); obtain ⟨p3, c3, rfl, -⟩ := id h3; have HR3 := hid (HR2.out.on hb3); have HWr3 := hid (HWr2.out.on hb3); have HWx := hid (own_wr (B := w1.heap.size) (v := .slice pv hs'.length cv') hw3 (by have := HK.out.size; have := HK2.out.size; omega) (fun g e => (HR2.out.own.at e).2)); clear hw3; have HX3 : Hid (TN.RowIn (fun b => w1.heap.size ≤ b ∧ b < w3.heap.size ∧ (Value.slice pv hs'.length cv').ownBlock ≠ some b) w3 (.slice p3 r.length c3) r) := ((tn_low h3 (fun x => ⟨_, rfl⟩)).imp (fun b hb => hb)) |> fun hlow => by { obtain ⟨p', cap', hv', hc', hm', hx'⟩ := h3; obtain ⟨p9, cap9, hv9, hc9, hm9, hx9⟩ := hlow; refine ⟨p', cap', hv', hc', hm', fun hne => ?_⟩; obtain ⟨b, o, hp, hQ, hj⟩ := hx' hne; obtain ⟨b9, o9, hp9, hQ9, -⟩ := hx9 hne; rw [hv'] at hv9; cases hv9; rw [hp] at hp9; cases hp9; exact ⟨b, o, hp, ⟨⟨by have := HK.out.size; have := HK2.out.size; omega, hQ9.1, fun e => by have := (HR2.out.own.at e).2; omega⟩, hQ.2⟩, hj⟩ }; have HB3 := hid hb3; clear h3 hb3)
          | (at_builtin; refine app_A elem_row (fun _ => rfl) (by intro y hy c hc; simp at hy; subst hy; simp [TN.one] at hc; subst hc; rfl) rfl _ _ rfl rfl (HR3.out.own.on ((Below.refl _ _).alloc (Nat.le_refl _) (.cells #[.slice p3 r.length c3] 48))) rfl (Own.sl (Own.blk (enc := TN.one) (k := 1) (e := 48) (B := w3.heap.size) (w := w3.alloc (.cells #[.slice p3 r.length c3] 48)) (xs := [.slice p3 r.length c3]) (fun _ => rfl) (Nat.le_refl _) (alloc_block w3 _) (by unfold maxLen; simp)) (fun _ => rfl)) (by simp) (by simp; omega) (by decide) (by have := HR3.out; have := HK.out.size; have := HK2.out.size; have := HB3.out.size; simp; omega) ?_; intro v5 w5 ho hg hat; have HR5 := hid ((HR3.out.on ((Below.refl _ _).alloc (Nat.le_refl _) (.cells #[.slice p3 r.length c3] 48))).app (r := r) ((HX3.out.on ((Below.refl _ _).alloc (Nat.le_refl _) (.cells #[.slice p3 r.length c3] 48))).imp (fun b hb => ⟨hb.1, by have := hb.2.1; simp; omega, hb.2.2⟩)) ho hg hat); have HW5 := hid ((HWr3.out.on ((Below.refl _ _).alloc (Nat.le_refl _) (.cells #[.slice p3 r.length c3] 48))).app (r := r) HR3.out.len (HWx.out.on ((Below.refl _ _).alloc (Nat.le_refl _) (.cells #[.slice p3 r.length c3] 48))) hg hat); have HK5 : Hid (Kp (fun b => (Value.slice pv hs'.length cv').ownBlock = some b) w2 w5) := (Kp.of (HB3.out.alloc HB3.out.size (.cells #[.slice p3 r.length c3] 48))).trans' (Kp.grown (T := fun b => (Value.slice pv hs'.length cv').ownBlock = some b) hg (fun b e => e)) (fun b hb e => e); clear ho hg hat))
        have hKf : Kp (fun b => b = hd) w1 w5 := (HK.out.trans HK2.out).trans' HK5.out (fun b hb e => by have := (HR2.out.own.at e).1; omega)
        obtain ⟨hb2, hH2, hl2⟩ := HH2.out
        have hHf : ∃ hb, Hd w5 hd hb ∧ hb.length = n + 1 := ⟨hb2, HK5.out.blk hH2 (fun e => by have := (HR2.out.own.at e).1; omega), hl2⟩
        refine ⟨⟨k + 1, by omega, by go_num, hKf, hHf, _, by rw [HFt.out]; exact HR5.out, by rw [HFt.out]; exact HW5.out⟩, by simp [intOf]; omega⟩
    · have hkm' : k = m := by omega
      have kI : ¬ (k : Int) < m := by omega
      have yT : wr.heap[w.heap.size]? = some (.cells #[.slice pc cs.length cc, .slice pr hs.length cr] 25 (0, 0)) := HK.out.blk HT1.out (Nat.ne_of_lt (Nat.lt_of_lt_of_le (lt_of_block HT.out) HG1.out))
      have yO : wr.heap[w.heap.size + 1 + 1]? = some (.cells #[.slice none 0 0, .slice none 0 0] 25 (0, 0)) := HK.out.blk HO1.out (Nat.ne_of_lt (Nat.lt_of_lt_of_le (lt_of_block HO.out) HG1.out))
      have z0 : wr.cell? ⟨w.heap.size, 0, none⟩ = some (.slice pc cs.length cc) := block_cell yT 0
      have HOr := hid yO
      have hRf : Rws w1.heap.size wr (.slice pv hs'.length cv') hs' (rs.filter (holdsX cs qs n)) := by
        have := hRs
        rw [hkm', List.take_of_length_le (by have := HMm.out; have := HLn.out; omega)] at this
        exact this
      have HRf := hid hRf
      have hWf : Wr w1.heap.size wr (.slice pv hs'.length cv') hs' (rs.filter (holdsX cs qs n)) := by
        have := hWr
        rw [hkm', List.take_of_length_le (by have := HMm.out; have := HLn.out; omega)] at this
        exact this
      have HWf := hid hWf
      have HCr := hid ((HCo.out.on HBr.out).imp (fun _ _ => trivial) : TN.ColsAt wr (.slice pc cs.length cc) cs)
      clear hH hHl hRs hWr yT yO HHd HRs hkm hRf hWf
      go_wp2_with (go_at_call 34; refine (TN.cloneC_any HCr.out).mono ?_; rintro e w4 ⟨v4, rfl, h4, hb4⟩; obtain ⟨p4, c4, rfl, -⟩ := id h4; have HC4 := hid h4; have HB4 := hid hb4; have HR4 := hid (HRf.out.on hb4); have HW4 := hid (HWf.out.on hb4); have HO4 := hid (block_on HOr.out hb4); have y4 := block_cell HO4.out; have x4 := block_frozen HO4.out; clear h4 hb4)
      have hob : w.heap.size + 1 + 1 < w1.heap.size := by have := lt_of_block HO.out; omega
      have KF := block_set (block_set HO4.out 0 (.slice p4 cs.length c4)) 1 (.slice pv hs'.length cv')
      have hkf : Kp (fun b => b = w.heap.size + 1 + 1) w4 ((w4.setCell ⟨w.heap.size + 1 + 1, 0, none⟩ (.slice p4 cs.length c4)).setCell ⟨w.heap.size + 1 + 1, 1, none⟩ (.slice pv hs'.length cv')) := (Kp.set (T := fun b => b = w.heap.size + 1 + 1) rfl _).trans (Kp.set (T := fun b => b = w.heap.size + 1 + 1) rfl _)
      have hwr := HBr.out.size
      have hs4 := HB4.out.size
      have hw1 := HK.out.size
      have hC9 := tnSl_kp (TN.SlAt.low HC4.out (by decide) TN.cl_len) hkf (fun b hb (e : b = w.heap.size + 1 + 1) => by have := hb.1; omega)
      have hR9 := HR4.out.kp hkf (fun b (e : b = w.heap.size + 1 + 1) => by omega)
      have hW9 := HW4.out.kp hkf (fun b (e : b = w.heap.size + 1 + 1) => .inl (by omega))
      have hBf : Below w.heap.size w ((w4.setCell ⟨w.heap.size + 1 + 1, 0, none⟩ (.slice p4 cs.length c4)).setCell ⟨w.heap.size + 1 + 1, 1, none⟩ (.slice pv hs'.length cv')) := (HBr.out.trans (HB4.out.mono hwr)).trans (hkf.below (by omega) (fun b (e : b = w.heap.size + 1 + 1) => by omega))
      have hsf := hkf.size
      clear y4 x4
      generalize ((w4.setCell ⟨w.heap.size + 1 + 1, 0, none⟩ (.slice p4 cs.length c4)).setCell ⟨w.heap.size + 1 + 1, 1, none⟩ (.slice pv hs'.length cv')) = WF at *
      refine bodyPost_ret (v := .agg #[.slice p4 cs.length c4, .slice pv hs'.length cv']) ?_ rfl ⟨_, _, hs', rfl, hC9.imp (fun b hb => ⟨by have := hb.1; omega, by have := hb.2; omega⟩), hR9.le (by omega), hW9.le (by omega), hBf⟩
      have kcf := block_cell KF
      clear KF
      simp [results, Try.results14, go_sem, kcf]
theorem where_own {i : Int} {nv cv rv : Value} {qs : List Nx} {cs : List TN.Cl} {rs : List TN.Rw} {hs : List Value} {w : World} (hq : Qx (fun b => b < w.heap.size) w nv qs) (hl : qs.length ≤ 1000) (hc : TN.ColsAt w cv cs) (hr : TN.SlAt TN.any TN.one 1 w rv hs) (hh : TN.HeadsIn TN.any w hs rs) (hM : Mx w) (hz : ∀ q ∈ qs, q.np.kind = 15 → ∀ r ∈ rs, Rsz r) (hrl : rs.length ≤ 1000000) : Calls Try.prog 14 #[.agg #[cv, rv], .agg #[nv], .int .i64 i] w (WhW cs (rs.filter (holdsX cs qs i)) w) := by
  by_cases hi : i < 0 ∨ (qs.length : Int) ≤ i
  · refine (where_out hq hi hc hr hh hrl).mono ?_
    rintro e w' ⟨cv, rv, hs, rfl, h1, h2, h3⟩
    have e0 : rs.filter (holdsX cs qs i) = [] := List.filter_eq_nil_iff.2 (fun r _ => by rw [holdsX_out hi]; decide)
    have e1 : hs = [] := List.eq_nil_of_length_eq_zero (by rw [h2.len, e0]; rfl)
    subst e1
    exact ⟨_, _, _, rfl, h1, h2, Wr.nil _ _ _ _, h3⟩
  · obtain ⟨n, rfl⟩ : ∃ n : Nat, i = n := ⟨i.toNat, by omega⟩
    exact where_own_in hq (by omega) hl hc hr hh hM hz hrl
end Go.Proofs.Ytjekpclbedbaoaa.PD
namespace Go.Proofs.Ytjekpclbedbaoaa.PD
open Go.RowKit Go.Joins

/- The reference's values, k nodes on, n of them in all. -/
def okA (os : List Bool) (k n : Nat) : List Bool := os.take k ++ List.replicate (n - k) false
theorem okA_len {os : List Bool} {k n : Nat} (hk : k ≤ n) (ho : n ≤ os.length) : (okA os k n).length = n := by
  unfold okA; rw [List.length_append, List.length_take, List.length_replicate]; omega
theorem okA_zero (os : List Bool) (n : Nat) : okA os 0 n = List.replicate n false := by
  unfold okA; rw [List.take_zero, List.nil_append, Nat.sub_zero]
theorem okA_set {os : List Bool} {k n : Nat} {b : Bool} (hk : k < n) (h : os[k]? = some b) : (okA os k n).set k b = okA os (k + 1) n := by
  obtain ⟨hl, hb⟩ := List.getElem?_eq_some_iff.1 h
  unfold okA
  obtain ⟨m, hm⟩ : ∃ m, n - k = m + 1 := ⟨n - k - 1, by omega⟩
  rw [hm, show n - (k + 1) = m by omega, List.replicate_succ, List.set_append, if_neg (by rw [List.length_take]; omega), List.length_take, show k - min k os.length = 0 by omega, List.set_cons_zero, List.take_add_one, h, List.append_assoc]
  rfl
theorem okA_at {os : List Bool} {k n : Nat} {a : Int} (h0 : 0 ≤ a) (ha : a < (k : Int)) (ho : k ≤ os.length) : hsAt (okA os k n) a = hsAt os a := by
  unfold hsAt okA
  rw [List.getD_eq_getElem?_getD, List.getD_eq_getElem?_getD, List.getElem?_append_left (by rw [List.length_take]; omega), List.getElem?_take_of_lt (by omega)]
theorem okA_fin {os : List Bool} {n : Nat} {a : Nat} (ha : a < n) (ho : n ≤ os.length) : hsAt (okA os n n) (a : Int) = hsAt os (a : Int) := okA_at (by omega) (by omega) ho
/- As many below as there are to be, each ahead. -/
def want1 (k : Int) : Nat := if k = 13 then 1 else 2
def blT (q : Nx) (k m : Nat) : Bool := decide (q.np.l.length = want1 q.np.kind) && (q.np.l.take m).all fun e => decide (0 ≤ e) && decide (e < (k : Int))
def blB (q : Nx) (k : Nat) : Bool := decide (q.np.l.length = want1 q.np.kind) && ahead q.np.l k
theorem blT_zero (q : Nx) (k : Nat) : blT q k 0 = decide (q.np.l.length = want1 q.np.kind) := by unfold blT; simp
theorem blT_next {q : Nx} {k m : Nat} {e : Int} (h : q.np.l[m]? = some e) (hb : blT q k m = true) : blT q k (m + 1) = (decide (0 ≤ e) && decide (e < (k : Int))) := by
  unfold blT at hb ⊢
  rw [Bool.and_eq_true] at hb
  rw [hb.1, Bool.true_and, List.take_add_one, h, Option.toList_some, List.all_append, hb.2, Bool.true_and]
  simp
theorem blT_end {q : Nx} {k m : Nat} (h : q.np.l.length ≤ m ∨ blT q k m = false) (_hm : m ≤ q.np.l.length) : blT q k m = blB q k := by
  rcases h with h | h
  · unfold blT blB ahead; rw [List.take_of_length_le h]
  · rw [h]
    unfold blT at h
    unfold blB ahead
    by_cases h1 : q.np.l.length = want1 q.np.kind
    · rw [decide_eq_true h1, Bool.true_and] at h ⊢
      symm
      rw [List.all_eq_false] at h ⊢
      obtain ⟨e, he, h2⟩ := h
      exact ⟨e, List.mem_of_mem_take he, h2⟩
    · rw [decide_eq_false h1]; rfl
theorem blB_bel {q : Nx} {k : Nat} (h : q.np.kind = 13 ∨ q.np.kind = 11 ∨ q.np.kind = 12) : bel q k = if blB q k = true then q.np.l else [] := by
  unfold bel blB
  have h1 : how1 q.np.kind = want1 q.np.kind := by
    unfold how1 want1
    rcases h with h | h | h <;> rw [h] <;> decide
  rw [h1]
  by_cases c : q.np.l.length = want1 q.np.kind
  · simp [c]
  · simp [c]
theorem tst_not {cs : List TN.Cl} {q : Nx} {k : Nat} {hs : List Bool} {row : TN.Rw} (h : q.np.kind = 13) : tst cs q k hs row = (blB q k && !hsAt hs (q.np.l.getD 0 0)) := by
  unfold tst
  rw [if_neg (by omega), if_neg (by omega), blB_bel (.inl h)]
  by_cases c : blB q k = true
  · rw [if_pos c, c, Bool.true_and]
    have hl : q.np.l.length = 1 := by
      unfold blB at c
      rw [Bool.and_eq_true] at c
      have := of_decide_eq_true c.1
      unfold want1 at this
      rw [if_pos h] at this; exact this
    match hq : q.np.l, hl with
    | [a], _ => simp [h]
  · rw [if_neg c]
    simp at c
    rw [c]; rfl
theorem two_of {q : Nx} {k : Nat} (c : blB q k = true) (h : q.np.kind ≠ 13) : q.np.l.length = 2 := by
  unfold blB at c
  rw [Bool.and_eq_true] at c
  have := of_decide_eq_true c.1
  unfold want1 at this
  rw [if_neg h] at this; exact this
theorem tst_and {cs : List TN.Cl} {q : Nx} {k : Nat} {hs : List Bool} {row : TN.Rw} (h : q.np.kind = 11) : tst cs q k hs row = (blB q k && hsAt hs (q.np.l.getD 0 0) && hsAt hs (q.np.l.getD 1 0)) := by
  unfold tst
  rw [if_neg (by omega), if_neg (by omega), blB_bel (.inr (.inl h))]
  by_cases c : blB q k = true
  · rw [if_pos c, c, Bool.true_and]
    match hq : q.np.l, two_of c (by omega) with
    | [a, b], _ => simp [h]
  · rw [if_neg c]
    simp at c
    rw [c]; rfl
theorem tst_or {cs : List TN.Cl} {q : Nx} {k : Nat} {hs : List Bool} {row : TN.Rw} (h : q.np.kind = 12) : tst cs q k hs row = (blB q k && (hsAt hs (q.np.l.getD 0 0) || hsAt hs (q.np.l.getD 1 0))) := by
  unfold tst
  rw [if_neg (by omega), if_neg (by omega), blB_bel (.inr (.inr h))]
  by_cases c : blB q k = true
  · rw [if_pos c, c, Bool.true_and]
    match hq : q.np.l, two_of c (by omega) with
    | [a, b], _ => simp [h]
  · rw [if_neg c]
    simp at c
    rw [c]; rfl
theorem tst_else {cs : List TN.Cl} {q : Nx} {k : Nat} {hs : List Bool} {row : TN.Rw} (h1 : q.np.kind ≠ 11) (h2 : q.np.kind ≠ 12) (h3 : q.np.kind ≠ 13) (h4 : q.np.kind ≠ 14) (h5 : q.np.kind ≠ 15) : tst cs q k hs row = false := by
  unfold tst
  rw [if_neg h4, if_neg h5]
  split
  · rw [if_neg h3]
  · rw [if_neg h1, if_neg h2]
  · rfl
theorem blB_mem {q : Nx} {k : Nat} (c : blB q k = true) {j : Nat} {e : Int} (h : q.np.l[j]? = some e) : 0 ≤ e ∧ e < (k : Int) := by
  unfold blB at c
  rw [Bool.and_eq_true] at c
  exact ahead_mem c.2 (List.mem_of_getElem? h)
end Go.Proofs.Ytjekpclbedbaoaa.PD
namespace Go.Proofs.Ytjekpclbedbaoaa.PD
open Go.RowKit Go.Joins

theorem has_at {s sub : ByteArray} {k : Nat} (hno : Lib.NoOccB s sub k) (hi : k + sub.size ≤ s.size) (hp : ((s.extract k (k + sub.size)).toList == sub.toList) = true) : Lib.contains s.data.toList sub.data.toList = true := by
  have := Lib.hit s sub k hno hi hp
  unfold Lib.contains
  rw [show Lib.index s.data.toList sub.data.toList = (k : Int) from this]
  exact decide_eq_true (by omega)
theorem has_not {s sub : ByteArray} {k : Nat} (hno : Lib.NoOccB s sub k) (hi : s.size < k + sub.size) : Lib.contains s.data.toList sub.data.toList = false := by
  by_cases h0 : 1 ≤ sub.size
  · have := Lib.past s sub k hno h0 hi
    unfold Lib.contains
    rw [show Lib.index s.data.toList sub.data.toList = -1 from this]
    rfl
  · have hz : sub.data.toList = [] := List.length_eq_zero_iff.1 (by rw [← Lib.size_eq]; omega)
    exfalso
    have := hno 0 (by omega)
    rw [hz] at this
    simp [Lib.occAt] at this
end Go.Proofs.Ytjekpclbedbaoaa.PD
