/-
  The reference's Holds.
  The reference's Where.
  What few returns.
  Stage 15's examples.
  What stage 15's cut and few return.
  What Go's slices.Concat returns of two slices of rows.
  What the statements' small (a table of columns k and n) returns.
  What the reference's Canon returns, for every table.
  PredHolds, walked.
-/
import Derived.Test.YtjekpclbedbaoaaKS15
import Derived.Test.YtjekpclbedbaoaaKS18
import Derived.Test.YtjekpclbedbaoaaKS19
import Derived.Test.YtjekpclbedbaoaaKS20
import Derived.Test.YtjekpclbedbaoaaKS21
import Derived.Test.YtjekpclbedbaoaaKS22
import Derived.Test.YtjekpclbedbaoaaKS24
import Derived.Test.YtjekpclbedbaoaaKS32
import Derived.Deep.CutBlock
import Derived.BigRegion
import Derived.Lib.OwnKind
import Derived.Deep.RegionLaw
namespace Go.Proofs.Ytjekpclbedbaoaa.PD
open Go.RowKit Go.Joins

theorem okA_same {os : List Bool} {k n : Nat} (hk : k < n) (h : os[k]? = some false) : okA os (k + 1) n = okA os k n := by
  rw [← okA_set hk h]
  obtain ⟨hl, -⟩ := List.getElem?_eq_some_iff.1 h
  apply List.ext_getElem?
  intro j
  rw [List.getElem?_set]
  by_cases e : k = j
  · subst e
    rw [if_pos rfl]
    unfold okA
    obtain ⟨m, hm⟩ : ∃ m, n - k = m + 1 := ⟨n - k - 1, by omega⟩
    rw [hm, List.replicate_succ, List.getElem?_append_right (by rw [List.length_take]; omega), List.length_take, show k - min k os.length = 0 by omega]
    simp [List.length_take]; omega
  · rw [if_neg e]

abbrev A1 (a : Addr) (v : Value) (w : World) : Prop := w.cell? a = some v
theorem A1.d {a : Addr} {v : Value} {w : World} (h : A1 a v w) : A1 a v w.drew := h
theorem A1.s {a : Addr} {v x : Value} {R i : Nat} {w : World} (h0 : R ≠ a.block) (h : A1 a v w) : A1 a v (w.setCell ⟨R, i, none⟩ x) := (World.cell?_setCell_far _ _ _ _ h0).trans h
theorem tst_cmp {cs : List TN.Cl} {q : Nx} {k : Nat} {hs : List Bool} {row : TN.Rw} {v : TN.Vl} (h : q.np.kind = 14) (hv : valAt cs row q.np.s = some v) : tst cs q k hs row = cmpQ q v := by unfold tst; rw [if_pos h, hv]
theorem tst_cmp0 {cs : List TN.Cl} {q : Nx} {k : Nat} {hs : List Bool} {row : TN.Rw} (h : q.np.kind = 14) (hv : valAt cs row q.np.s = none) : tst cs q k hs row = false := by unfold tst; rw [if_pos h, hv]
theorem tst_has {cs : List TN.Cl} {q : Nx} {k : Nat} {hs : List Bool} {row : TN.Rw} {v : TN.Vl} (h : q.np.kind = 15) (hv : valAt cs row q.np.s = some v) : tst cs q k hs row = hasQ q v := by unfold tst; rw [if_neg (by omega), if_pos h, hv]
theorem tst_has0 {cs : List TN.Cl} {q : Nx} {k : Nat} {hs : List Bool} {row : TN.Rw} (h : q.np.kind = 15) (hv : valAt cs row q.np.s = none) : tst cs q k hs row = false := by unfold tst; rw [if_neg (by omega), if_pos h, hv]
abbrev SA (nb rb ro : Nat) (q : Nx) (v : TN.Vl) (w : World) : Prop :=
  w.cell? ⟨nb, 2, none⟩ = some (.int .i64 q.np.n) ∧ w.cell? ⟨nb, 5, none⟩ = some (.int .i64 q.np.vk) ∧ w.cell? ⟨nb, 6, none⟩ = some (.int .i64 q.np.vn) ∧ w.cell? ⟨nb, 7, none⟩ = some (.string (St q.np.vs)) ∧ w.cell? ⟨nb, 8, none⟩ = some (.int .i64 q.h0) ∧ w.cell? ⟨nb, 9, none⟩ = some (.int .i64 q.h1) ∧ w.cell? ⟨nb, 10, none⟩ = some (.int .i64 q.h2) ∧ w.cell? ⟨nb, 11, none⟩ = some (.int .i64 q.h3) ∧ w.cell? ⟨nb, 12, none⟩ = some (.int .i64 q.h4) ∧ w.cell? ⟨nb, 13, none⟩ = some (.int .i64 q.h5) ∧ w.cell? ⟨nb, 14, none⟩ = some (.int .i64 q.h6) ∧ w.cell? ⟨nb, 15, none⟩ = some (.int .i64 q.h7) ∧ w.cell? ⟨rb, ro, none⟩ = some (.int .i64 v.k) ∧ w.cell? ⟨rb, ro + 1, none⟩ = some (.int .i64 v.n) ∧ w.cell? ⟨rb, ro + 2, none⟩ = some (.string v.s) ∧ w.cell? ⟨rb, ro + 3, none⟩ = some (.int .i64 v.h0) ∧ w.cell? ⟨rb, ro + 4, none⟩ = some (.int .i64 v.h1) ∧ w.cell? ⟨rb, ro + 5, none⟩ = some (.int .i64 v.h2) ∧ w.cell? ⟨rb, ro + 6, none⟩ = some (.int .i64 v.h3) ∧ w.cell? ⟨rb, ro + 7, none⟩ = some (.int .i64 v.h4) ∧ w.cell? ⟨rb, ro + 8, none⟩ = some (.int .i64 v.h5) ∧ w.cell? ⟨rb, ro + 9, none⟩ = some (.int .i64 v.h6) ∧ w.cell? ⟨rb, ro + 10, none⟩ = some (.int .i64 v.h7)
theorem SA.on {nb rb ro : Nat} {q : Nx} {v : TN.Vl} {w w' : World} (h : SA nb rb ro q v w) (hb : Below w.heap.size w w') : SA nb rb ro q v w' :=
  ⟨(hb.cell (block_lt_of_cell (h.1))).trans (h.1), (hb.cell (block_lt_of_cell (h.2.1))).trans (h.2.1), (hb.cell (block_lt_of_cell (h.2.2.1))).trans (h.2.2.1), (hb.cell (block_lt_of_cell (h.2.2.2.1))).trans (h.2.2.2.1), (hb.cell (block_lt_of_cell (h.2.2.2.2.1))).trans (h.2.2.2.2.1), (hb.cell (block_lt_of_cell (h.2.2.2.2.2.1))).trans (h.2.2.2.2.2.1), (hb.cell (block_lt_of_cell (h.2.2.2.2.2.2.1))).trans (h.2.2.2.2.2.2.1), (hb.cell (block_lt_of_cell (h.2.2.2.2.2.2.2.1))).trans (h.2.2.2.2.2.2.2.1), (hb.cell (block_lt_of_cell (h.2.2.2.2.2.2.2.2.1))).trans (h.2.2.2.2.2.2.2.2.1), (hb.cell (block_lt_of_cell (h.2.2.2.2.2.2.2.2.2.1))).trans (h.2.2.2.2.2.2.2.2.2.1), (hb.cell (block_lt_of_cell (h.2.2.2.2.2.2.2.2.2.2.1))).trans (h.2.2.2.2.2.2.2.2.2.2.1), (hb.cell (block_lt_of_cell (h.2.2.2.2.2.2.2.2.2.2.2.1))).trans (h.2.2.2.2.2.2.2.2.2.2.2.1), (hb.cell (block_lt_of_cell (h.2.2.2.2.2.2.2.2.2.2.2.2.1))).trans (h.2.2.2.2.2.2.2.2.2.2.2.2.1), (hb.cell (block_lt_of_cell (h.2.2.2.2.2.2.2.2.2.2.2.2.2.1))).trans (h.2.2.2.2.2.2.2.2.2.2.2.2.2.1), (hb.cell (block_lt_of_cell (h.2.2.2.2.2.2.2.2.2.2.2.2.2.2.1))).trans (h.2.2.2.2.2.2.2.2.2.2.2.2.2.2.1), (hb.cell (block_lt_of_cell (h.2.2.2.2.2.2.2.2.2.2.2.2.2.2.2.1))).trans (h.2.2.2.2.2.2.2.2.2.2.2.2.2.2.2.1), (hb.cell (block_lt_of_cell (h.2.2.2.2.2.2.2.2.2.2.2.2.2.2.2.2.1))).trans (h.2.2.2.2.2.2.2.2.2.2.2.2.2.2.2.2.1), (hb.cell (block_lt_of_cell (h.2.2.2.2.2.2.2.2.2.2.2.2.2.2.2.2.2.1))).trans (h.2.2.2.2.2.2.2.2.2.2.2.2.2.2.2.2.2.1), (hb.cell (block_lt_of_cell (h.2.2.2.2.2.2.2.2.2.2.2.2.2.2.2.2.2.2.1))).trans (h.2.2.2.2.2.2.2.2.2.2.2.2.2.2.2.2.2.2.1), (hb.cell (block_lt_of_cell (h.2.2.2.2.2.2.2.2.2.2.2.2.2.2.2.2.2.2.2.1))).trans (h.2.2.2.2.2.2.2.2.2.2.2.2.2.2.2.2.2.2.2.1), (hb.cell (block_lt_of_cell (h.2.2.2.2.2.2.2.2.2.2.2.2.2.2.2.2.2.2.2.2.1))).trans (h.2.2.2.2.2.2.2.2.2.2.2.2.2.2.2.2.2.2.2.2.1), (hb.cell (block_lt_of_cell (h.2.2.2.2.2.2.2.2.2.2.2.2.2.2.2.2.2.2.2.2.2.1))).trans (h.2.2.2.2.2.2.2.2.2.2.2.2.2.2.2.2.2.2.2.2.2.1), (hb.cell (block_lt_of_cell (h.2.2.2.2.2.2.2.2.2.2.2.2.2.2.2.2.2.2.2.2.2.2))).trans (h.2.2.2.2.2.2.2.2.2.2.2.2.2.2.2.2.2.2.2.2.2.2)⟩
theorem SA.d {nb rb ro : Nat} {q : Nx} {v : TN.Vl} {w : World} (h : SA nb rb ro q v w) : SA nb rb ro q v w.drew := h
theorem SA.s {nb rb ro R i : Nat} {x : Value} {q : Nx} {v : TN.Vl} {w : World} (h0 : R ≠ nb) (h1 : R ≠ rb) (h : SA nb rb ro q v w) : SA nb rb ro q v (w.setCell ⟨R, i, none⟩ x) :=
  ⟨(World.cell?_setCell_far _ _ _ _ h0).trans (h.1), (World.cell?_setCell_far _ _ _ _ h0).trans (h.2.1), (World.cell?_setCell_far _ _ _ _ h0).trans (h.2.2.1), (World.cell?_setCell_far _ _ _ _ h0).trans (h.2.2.2.1), (World.cell?_setCell_far _ _ _ _ h0).trans (h.2.2.2.2.1), (World.cell?_setCell_far _ _ _ _ h0).trans (h.2.2.2.2.2.1), (World.cell?_setCell_far _ _ _ _ h0).trans (h.2.2.2.2.2.2.1), (World.cell?_setCell_far _ _ _ _ h0).trans (h.2.2.2.2.2.2.2.1), (World.cell?_setCell_far _ _ _ _ h0).trans (h.2.2.2.2.2.2.2.2.1), (World.cell?_setCell_far _ _ _ _ h0).trans (h.2.2.2.2.2.2.2.2.2.1), (World.cell?_setCell_far _ _ _ _ h0).trans (h.2.2.2.2.2.2.2.2.2.2.1), (World.cell?_setCell_far _ _ _ _ h0).trans (h.2.2.2.2.2.2.2.2.2.2.2.1), (World.cell?_setCell_far _ _ _ _ h1).trans (h.2.2.2.2.2.2.2.2.2.2.2.2.1), (World.cell?_setCell_far _ _ _ _ h1).trans (h.2.2.2.2.2.2.2.2.2.2.2.2.2.1), (World.cell?_setCell_far _ _ _ _ h1).trans (h.2.2.2.2.2.2.2.2.2.2.2.2.2.2.1), (World.cell?_setCell_far _ _ _ _ h1).trans (h.2.2.2.2.2.2.2.2.2.2.2.2.2.2.2.1), (World.cell?_setCell_far _ _ _ _ h1).trans (h.2.2.2.2.2.2.2.2.2.2.2.2.2.2.2.2.1), (World.cell?_setCell_far _ _ _ _ h1).trans (h.2.2.2.2.2.2.2.2.2.2.2.2.2.2.2.2.2.1), (World.cell?_setCell_far _ _ _ _ h1).trans (h.2.2.2.2.2.2.2.2.2.2.2.2.2.2.2.2.2.2.1), (World.cell?_setCell_far _ _ _ _ h1).trans (h.2.2.2.2.2.2.2.2.2.2.2.2.2.2.2.2.2.2.2.1), (World.cell?_setCell_far _ _ _ _ h1).trans (h.2.2.2.2.2.2.2.2.2.2.2.2.2.2.2.2.2.2.2.2.1), (World.cell?_setCell_far _ _ _ _ h1).trans (h.2.2.2.2.2.2.2.2.2.2.2.2.2.2.2.2.2.2.2.2.2.1), (World.cell?_setCell_far _ _ _ _ h1).trans (h.2.2.2.2.2.2.2.2.2.2.2.2.2.2.2.2.2.2.2.2.2.2)⟩
theorem SA.mk {nb rb ro : Nat} {q : Nx} {v : TN.Vl} {w : World} (h : w.heap[nb]? = some (.cells q.cells.toArray 44 (0, 0))) (V : TN.ValCells w rb ro v) : SA nb rb ro q v w :=
  ⟨block_cell h 2, block_cell h 5, block_cell h 6, block_cell h 7, block_cell h 8, block_cell h 9, block_cell h 10, block_cell h 11, block_cell h 12, block_cell h 13, block_cell h 14, block_cell h 15, V.c0, V.c1, V.c2, V.c3, V.c4, V.c5, V.c6, V.c7, V.c8, V.c9, V.c10⟩
end Go.Proofs.Ytjekpclbedbaoaa.PD
namespace Go.Proofs.Ytjekpclbedbaoaa.PD
open Go.RowKit Go.Joins Go.Sort

theorem row_new {B : Nat} {w : World} {v : Value} {r : TN.Rw} (h : TN.Own TN.Vl.cells 11 40 B w v r) (hb : r.length * TN.bsz 11 ≤ 140737488355328) : TN.RowIn (fun b => B ≤ b ∧ b < w.heap.size) w v r :=
  (TN.SlAt.low (TN.Own.sl h TN.vl_len hb) (by decide) TN.vl_len).imp (fun b hb => hb)
end Go.Proofs.Ytjekpclbedbaoaa.PD
namespace Go.Proofs.Ytjekpclbedbaoaa.PD
open Go.RowKit Go.Joins

theorem slAt_take {α : Type} {Q : Nat → Prop} {enc : α → List Value} {k : Nat} {w : World} {p : Option Addr} {n cap : Nat} {xs : List α} (h : SlAt Q enc k w (.slice p n cap) xs) (m : Nat) (hm : m ≤ n) : SlAt Q enc k w (.slice p m cap) (xs.take m) := by
  obtain ⟨p', cap', e, hc, hx⟩ := h
  cases e
  refine ⟨p, cap, by rw [List.length_take, Nat.min_eq_left hm], ⟨by rw [List.length_take]; omega, hc.2⟩, fun hne => ?_⟩
  obtain ⟨b, o, hp, hQ, hj⟩ := hx (by intro e; subst e; simp at hne)
  refine ⟨b, o, hp, hQ, fun j x hj' => hj j x ?_⟩
  rw [List.getElem?_take] at hj'
  split at hj'
  · exact hj'
  · cases hj'
theorem qx_take {Q : Nat → Prop} {w : World} {p : Option Addr} {n cap : Nat} {qs : List Nx} (h : Qx Q w (.slice p n cap) qs) (m : Nat) (hm : m ≤ n) : Qx Q w (.slice p m cap) (qs.take m) := ⟨slAt_take h.sl m hm, fun q hq => h.each q (List.mem_of_mem_take hq)⟩
end Go.Proofs.Ytjekpclbedbaoaa.PD
namespace Go.Proofs.Ytjekpclbedbaoaa.PD
open Go.RowKit Go.Joins

theorem whole_le (ts : List Tp) (p : PN) : (wholeS ts p).1.length ≤ 128 := by
  unfold wholeS
  split
  · simp
  · split
    · simp
    · split
      · simp
      · split
        · simp
        · rename_i h; simpa using h
theorem cnodes_le (l : List UInt8) : (cnodes l).length ≤ 128 := whole_le _ _
def cols5 : List TN.Cl := [⟨⟨#[104, 111, 115, 116]⟩, 2, by decide⟩, ⟨⟨#[110]⟩, 1, by decide⟩]
def row5 : TN.Rw := [⟨2, 0, ⟨#[119, 101, 98, 49]⟩, 0, 0, 0, 0, 0, 0, 0, 0, by decide⟩, ⟨1, 5, ⟨#[]⟩, 0, 0, 0, 0, 0, 0, 0, 0, by decide⟩]
def hold5 (l : List UInt8) : Bool := holdsX cols5 ((cnodes l).map nx0) ((cnodes l).length - 1) row5
theorem rsz5 : Rsz row5 := by
  intro v hv
  unfold row5 at hv
  simp only [List.mem_cons, List.not_mem_nil, or_false] at hv
  rcases hv with rfl | rfl <;> decide
def t1 : List UInt8 := [104, 111, 115, 116, 32, 104, 97, 115, 32, 34, 101, 98, 34]
def t2 : List UInt8 := [104, 111, 115, 116, 32, 104, 97, 115, 32, 34, 120, 34]
def t3 : List UInt8 := [110, 32, 62, 32, 52, 32, 97, 110, 100, 32, 110, 111, 116, 32, 104, 111, 115, 116, 32, 61, 32, 34, 119, 101, 98, 34]
def t4 : List UInt8 := [121, 32, 61, 32, 49]
theorem t1_is : hold5 t1 = true := by decide +kernel
theorem t2_is : hold5 t2 = false := by decide +kernel
theorem t3_is : hold5 t3 = true := by decide +kernel
theorem t4_is : hold5 t4 = false := by decide +kernel
theorem tn_blk {α : Type} {enc : α → List Value} {k : Nat} {w : World} {b : Nat} {xs : List α} {t : Nat} (hk : ∀ x, (enc x).length = k) (h : w.heap[b]? = some (.cells (xs.flatMap enc).toArray t (0, 0))) (hm : xs.length ≤ 1000) : TN.SlAt TN.any enc k w (.slice (some ⟨b, 0, none⟩) xs.length xs.length) xs :=
  ⟨some ⟨b, 0, none⟩, xs.length, rfl, ⟨Nat.le_refl _, fun e => by cases e⟩, by unfold maxLen; omega, fun _ => ⟨b, 0, rfl, ⟨trivial, by unfold TN.bsz; split <;> omega⟩, fun j x hj i u hu => by
    have h2 := TN.flat_get hk xs j x hj i u hu
    rw [block_cell h, Nat.zero_add, ← Array.getElem?_toList]
    exact h2⟩⟩
set_option maxRecDepth 100000 in
set_option maxHeartbeats 2000000 in
theorem holds5_any (l : List UInt8) (hl : (l.length : Int) ≤ 140737488355328) (w : World) (hM : Mx w) : Calls Try.prog 28 #[.string (St l)] w fun e w' => e = .returned (.bool (hold5 l)) ∧ Below w.heap.size w w' := by
  have HK := hid (fun w => cond5_any l hl w)
  have HM := hid hM
  have hle := cnodes_le l
  unfold CoP at HK
  have HX : Hid (hold5 l = holdsX cols5 ((cnodes l).map nx0) ((cnodes l).length - 1) row5) := rfl
  generalize hold5 l = r5 at *
  generalize cnodes l = ns at *
  have nI : (ns.length : Int) ≤ 128 := by omega
  clear hM
  go_enter Try.func28, Try.ntmps28
  go_upto_region 2 with (first
    | (go_at_call 47; refine (HK.out _).mono ?_; rintro e w1 ⟨v, rfl, hn, hb⟩; obtain ⟨p1, c1, rfl, -, -⟩ := hn.len; have HN1 := hid hn; have HB1 := hid hb; clear hn hb))
  have hb2 : Below w1.heap.size w1 (w1.alloc (.cells #[.slice p1 ns.length c1] 34)) := (Below.refl _ _).alloc (Nat.le_refl _) _
  have hq2 := alloc_block w1 (.cells #[.slice p1 ns.length c1] 34)
  have HN2 := hid (HN1.out.on hb2)
  have HB2 := hid (HB1.out.trans (hb2.mono HB1.out.size))
  have HQ2 := hid hq2
  clear hb2 hq2
  generalize w1.alloc (.cells #[.slice p1 ns.length c1] 34) = w2 at *
  go_upto_region 3 with fail
  have hb3 : Below w2.heap.size w2 (w2.alloc (.cells #[.string ⟨#[104, 111, 115, 116]⟩, .int .i64 2, .string ⟨#[110]⟩, .int .i64 1] 57)) := (Below.refl _ _).alloc (Nat.le_refl _) _
  have hc3 : TN.ColsAt (w2.alloc (.cells #[.string ⟨#[104, 111, 115, 116]⟩, .int .i64 2, .string ⟨#[110]⟩, .int .i64 1] 57)) (.slice (some ⟨w2.heap.size, 0, none⟩) 2 2) cols5 := tn_blk (enc := TN.Cl.cells) (k := 2) (xs := cols5) (fun _ => rfl) (alloc_block _ _) (by decide)
  have HB3 := hid (HB2.out.trans (hb3.mono HB2.out.size))
  have HC3 := hid hc3
  have HN3 := hid (HN2.out.on hb3)
  have y3 := block_cell (block_on HQ2.out hb3) 0
  have HM3 := hid (HM.out.on HB3.out)
  clear hb3 hc3 HN2 HQ2 HB2
  generalize w2.alloc (.cells #[.string ⟨#[104, 111, 115, 116]⟩, .int .i64 2, .string ⟨#[110]⟩, .int .i64 1] 57) = w3 at *
  generalize w2.heap.size = bc at *
  have hb4 : Below w3.heap.size w3 (w3.alloc (.cells #[.int .i64 2, .int .i64 0, .string ⟨#[119, 101, 98, 49]⟩, .int .i64 0, .int .i64 0, .int .i64 0, .int .i64 0, .int .i64 0, .int .i64 0, .int .i64 0, .int .i64 0, .int .i64 1, .int .i64 5, .string ⟨#[]⟩, .int .i64 0, .int .i64 0, .int .i64 0, .int .i64 0, .int .i64 0, .int .i64 0, .int .i64 0, .int .i64 0] 40)) := (Below.refl _ _).alloc (Nat.le_refl _) _
  have hr4 : TN.RowAt (w3.alloc (.cells #[.int .i64 2, .int .i64 0, .string ⟨#[119, 101, 98, 49]⟩, .int .i64 0, .int .i64 0, .int .i64 0, .int .i64 0, .int .i64 0, .int .i64 0, .int .i64 0, .int .i64 0, .int .i64 1, .int .i64 5, .string ⟨#[]⟩, .int .i64 0, .int .i64 0, .int .i64 0, .int .i64 0, .int .i64 0, .int .i64 0, .int .i64 0, .int .i64 0] 40)) (.slice (some ⟨w3.heap.size, 0, none⟩) 2 2) row5 := tn_blk (enc := TN.Vl.cells) (k := 11) (xs := row5) (fun _ => rfl) (alloc_block _ _) (by decide)
  have HB4 := hid (HB3.out.trans (hb4.mono HB3.out.size))
  have HC4 := hid (HC3.out.on hb4)
  have HN4 := hid (HN3.out.on hb4)
  have HM4 := hid (HM3.out.on hb4)
  have HR4 := hid hr4
  clear hb4 hr4
  obtain ⟨qs, hq5, hst, hql⟩ := nq_qx HN4.out
  have HQ5 := hid hq5
  have HX5 : Hid (r5 = holdsX cols5 qs (ns.length - 1) row5) := by rw [HX.out, ← hst, holdsX_strip]; exact hid rfl
  have hql2 : qs.length ≤ 1000 := by omega
  have HL5 := hid hql2
  clear hq5 hst hql hql2
  go_upto_region 4 with (first
    | (go_at_call 17; refine (holds_any (qs := qs) (cs := cols5) (row := row5) _ HQ5.out HL5.out HC4.out HR4.out HM4.out (fun _ _ _ => rsz5)).mono ?_; rintro e w5 ⟨rfl, hb⟩; have HB5 := hid (HB4.out.trans (hb.mono HB4.out.size)); clear hb))
  go_wp2_with fail
  rw [← HX5.out]
  go_ret
  exact ⟨rfl, HB5.out⟩
theorem h5_is {l : List UInt8} {b : Bool} (h : hold5 l = b) (hl : (l.length : Int) ≤ 140737488355328) (w : World) (hM : Mx w) : Calls Try.prog 28 #[.string (St l)] w fun e w' => e = .returned (.bool b) ∧ Below w.heap.size w w' := h ▸ holds5_any l hl w hM
set_option maxRecDepth 100000 in
set_option maxHeartbeats 2000000 in
theorem shown5_any (w : World) (hM : Mx w) : Calls Try.prog 10 #[] w fun e w' => e = .returned (.bool true) ∧ Below w.heap.size w w' := by
  have HM := hid hM
  have M1 : Hid True := trivial
  have M2 : Hid True := trivial
  have M3 : Hid True := trivial
  have M4 : Hid True := trivial
  clear hM
  go_enter Try.func10, Try.ntmps10
  go_wp2_with (first
    | (go_at_call 28; have FIRST := M1; refine (h5_is (l := t1) t1_is (by decide) _ HM.out).mono ?_; rintro e w1 ⟨rfl, hb⟩; have HB1 := hid hb; have HM1 := hid (HM.out.on hb); clear hb M1)
    | (go_at_call 28; have FIRST := M2; refine (h5_is (l := t2) t2_is (by decide) _ HM1.out).mono ?_; rintro e w2 ⟨rfl, hb⟩; have HB2 := hid (HB1.out.trans (hb.mono HB1.out.size)); have HM2 := hid (HM1.out.on hb); clear hb M2)
    | (go_at_call 28; have FIRST := M3; refine (h5_is (l := t3) t3_is (by decide) _ HM2.out).mono ?_; rintro e w3 ⟨rfl, hb⟩; have HB3 := hid (HB2.out.trans (hb.mono HB2.out.size)); have HM3 := hid (HM2.out.on hb); clear hb M3)
    | (go_at_call 28; have FIRST := M4; refine (h5_is (l := t4) t4_is (by decide) _ HM3.out).mono ?_; rintro e w4 ⟨rfl, hb⟩; have HB4 := hid (HB3.out.trans (hb.mono HB3.out.size)); clear hb M4))
  all_goals first
    | (exfalso; contradiction)
    | (go_ret; exact ⟨rfl, HB4.out⟩)
    | skip
end Go.Proofs.Ytjekpclbedbaoaa.PD
namespace Go.Proofs.Ytjekpclbedbaoaa.TN
open Go.RowKit Go.Sort Go.Shelf

set_option maxHeartbeats 1000000 in
theorem cut5_q {Q : Nat → Prop} {c r : Value} {hs : List Value} {cs : List Cl} {rs : List Rw} {w : World} (hc : SlAt Q Cl.cells 2 w c cs) (hr : SlAt Q one 1 w r hs) (hh : HeadsIn Q w hs rs) :
    Calls Try.prog 11 #[.agg #[c, r]] w fun e w' => ∃ r', e = .returned (.agg #[c, r']) ∧ SlAt Q one 1 w' r' (hs.take 100) ∧ HeadsIn Q w' (hs.take 100) (rs.take 100) ∧ Below w.heap.size w w' := by
  have HR := hid hr
  obtain ⟨p, cap, rfl, ⟨hcap, -⟩, -, -⟩ := hr
  obtain ⟨q, cap', rfl, -, -, -⟩ := id hc
  have HH := hid hh
  clear hc hh
  generalize hn : hs.length = n at *
  have HN := hid hn
  clear hn
  by_cases h : 100 < n
  · have g : (100 : Int) < (n : Int) := by omega
    go_enter Try.func11, Try.ntmps11
    go_wp2
    have HB := hid (((Below.refl w.heap.size w).alloc (Nat.le_refl _) (.cells #[.slice q cs.length cap', .slice p 100 cap] 25)).alloc (by simp) (.cells #[.slice q cs.length cap', .slice p 100 cap] 25))
    refine bodyPost_ret (v := .agg #[.slice q cs.length cap', .slice p 100 cap]) (by simp [results, Try.results11, go_sem]) rfl ⟨_, rfl, (HR.out.take 100 (by omega)).on HB.out, (HH.out.take 100).on HB.out, HB.out⟩
  · have g : ¬ (100 : Int) < (n : Int) := by omega
    go_enter Try.func11, Try.ntmps11
    go_wp2
    have HB := hid (((Below.refl w.heap.size w).alloc (Nat.le_refl _) (.cells #[.slice q cs.length cap', .slice p n cap] 25)).alloc (by simp) (.cells #[.slice q cs.length cap', .slice p n cap] 25))
    rw [List.take_of_length_le (l := hs) (by rw [HN.out]; omega), List.take_of_length_le (l := rs) (by rw [← HH.out.1, HN.out]; omega)]
    refine bodyPost_ret (v := .agg #[.slice q cs.length cap', .slice p n cap]) (by simp [results, Try.results11, go_sem]) rfl ⟨_, rfl, HR.out.on HB.out, HH.out.on HB.out, HB.out⟩
end Go.Proofs.Ytjekpclbedbaoaa.TN
namespace Go.Proofs
open Go.Shelf
end Go.Proofs
namespace Go.Proofs.Ytjekpclbedbaoaa.TN
open Go.RowKit Go.Sort Go.Shelf

theorem heads_one {Q : Nat → Prop} {w : World} {hs : List Value} {rs : List Rw} (h : HeadsIn Q w hs rs) : ∀ y ∈ hs, ∀ c ∈ one y, c.oneCell' = true := by
  intro y hy c hc
  simp [one] at hc
  subst hc
  obtain ⟨i, hi⟩ := List.getElem?_of_mem hy
  have hl : i < hs.length := (List.getElem?_eq_some_iff.1 hi).1
  have hl' : i < rs.length := by rw [← h.1]; exact hl
  exact slice_one (h.2 i c _ hi (List.getElem?_eq_getElem hl'))
theorem heads_append {Q : Nat → Prop} {w : World} {hs ks : List Value} {rs qs : List Rw} (h : HeadsIn Q w hs rs) (k : HeadsIn Q w ks qs) : HeadsIn Q w (hs ++ ks) (rs ++ qs) := by
  refine ⟨by simp [h.1, k.1], fun j x r hx hr => ?_⟩
  by_cases hj : j < hs.length
  · rw [List.getElem?_append_left hj] at hx
    rw [List.getElem?_append_left (by rw [← h.1]; exact hj)] at hr
    exact h.2 j x r hx hr
  · rw [List.getElem?_append_right (by omega)] at hx
    rw [List.getElem?_append_right (by rw [← h.1]; omega), ← h.1] at hr
    exact k.2 _ x r hx hr
end Go.Proofs.Ytjekpclbedbaoaa.TN
namespace Go.Proofs.Ytjekpclbedbaoaa.TN
open Go.RowKit Go.Sort Go.Shelf

theorem app_all {ops : Array Oper} {rest : List Oper} {o : Oper} {a : Act} {Q : Exit → Act → World → Prop} {w : World} {α : Type} {enc : α → List Value} {k e t B : Nat} {Qb : Nat → Prop} {xs ys : List α} {v u : Value}
    (hE : Elem t e k) (hk : ∀ x, (enc x).length = k) (h1 : ∀ y ∈ ys, ∀ c ∈ enc y, c.oneCell' = true) (hgd : o.guard = none) (s x : Operand) (ho : o.op = .call { callee := .builtin .append, args := #[s, x], argTypes := #[t, t] })
    (hs : a.eval s = v) (hown : Own enc k e B w v xs) (hx : a.eval x = u) (hu : SlAt Qb enc k w u ys) (hb : (xs.length + ys.length) * bsz k ≤ 140737488355328) (hB : B ≤ w.heap.size)
    (h : ∀ v' w', Own enc k e B w' v' (xs ++ ys) → Below B w w' → w.grownBy w' v.ownBlock → wpList Try.prog ops Q rest (a.put o.dst v') w') : wpList Try.prog ops Q (o :: rest) a w := by
  obtain ⟨ht, hkp, i0, z, hi, hz0, hz1, hz2, hzs⟩ := hE
  obtain ⟨p, cap, rfl, ⟨hcap, hnone⟩, hmax, hy⟩ := hu
  cases p with
  | none =>
    have hn : ys = [] := by
      cases ys with
      | nil => rfl
      | cons y r => obtain ⟨b, o, hp, _⟩ := hy (by simp); cases hp
    subst hn
    have hc := hnone rfl
    subst hc
    refine wpList_append_own_none hgd s x t ho B e i0 k ht hi v xs.length _ hs hown (by rw [hx]; rfl) ?_
    have := h v w (by rw [List.append_nil]; exact hown) (Below.refl _ _) ⟨rfl, rfl, rfl, Nat.le_refl _, fun _ _ _ => rfl⟩
    exact this
  | some ad =>
    refine wpList_append_own w hgd s x t ho B e i0 z k i0.bytes ht hi hz0 hz1 rfl hzs hkp v xs.length _ hs hown ad ys.length cap (ys.flatMap enc) hx (flat_length hk ys) ?_ ?_ ?_ (Nat.le_trans (Nat.mul_le_mul_left _ hz2) hb) hB ?_
    · intro j c hj
      have hne : ys ≠ [] := by intro e; subst e; simp at hj
      obtain ⟨b, o, hp, _, hcell⟩ := hy hne
      have hp' : ad = ⟨b, o, none⟩ := Option.some.inj hp
      rw [hp', Addr.add_lit]
      exact flat_cells hk ys o hcell j c hj
    · intro c hc
      obtain ⟨y, hy', hcy⟩ := List.mem_flatMap.1 hc
      exact h1 y hy' c hcy
    · unfold maxLen; unfold bsz at hb; split at hb <;> omega
    · intro v' w' h2 h3 _
      refine h v' w' ?_ ((Below.refl B w).grown h3 hB (fun j e => (hown.lt j e))) h3
      show w'.ownsRow B e k v' (xs ++ ys).length ((xs ++ ys).flatMap enc)
      rw [List.length_append, List.flatMap_append]; exact h2
/- A block of values, of the call's own. -/
def ty48 (B : Nat) (w : World) (b : Nat) : Prop := B ≤ b ∧ ∃ c fz, w.heap[b]? = some (.cells c 40 fz)
theorem own_ne {enc : Value → List Value} {B B' : Nat} {w : World} {v : Value} {hs : List Value} (h : Own enc 1 48 B w v hs) {b : Nat} (hb : ty48 B' w b) : some b ≠ v.ownBlock := fun e => by
  obtain ⟨c, fz, hc⟩ := Lib.ownsRow_kind h b e.symm
  obtain ⟨-, c', fz', hc'⟩ := hb
  rw [hc] at hc'
  cases hc'
theorem row_grown {B : Nat} {w w' : World} {v : Value} {r : Rw} {row : Option Nat} (h : RowIn (ty48 B w) w v r) (hg : w.grownBy w' row) (hne : ∀ b, ty48 B w b → some b ≠ row) : RowIn (ty48 B w') w' v r := by
  obtain ⟨p, cap, hv, hc, hm, hx⟩ := h
  refine ⟨p, cap, hv, hc, hm, fun hn => ?_⟩
  obtain ⟨b, o, hp, hQ, hj⟩ := hx hn
  have hb : w'.heap[b]? = w.heap[b]? := by
    obtain ⟨-, c, fz, hc⟩ := hQ.1
    exact hg.block b (lt_of_block hc) (hne b hQ.1)
  refine ⟨b, o, hp, ⟨?_, hQ.2⟩, fun j x hjx i u hu => ?_⟩
  · obtain ⟨hB, c, fz, hc⟩ := hQ.1
    exact ⟨hB, c, fz, hb.trans hc⟩
  · exact (World.cell?_of_block (a := ⟨b, o + j * 11 + i, none⟩) hb).trans (hj j x hjx i u hu)
theorem heads_grown {B : Nat} {w w' : World} {hs : List Value} {rs : List Rw} {row : Option Nat} (h : HeadsIn (ty48 B w) w hs rs) (hg : w.grownBy w' row) (hne : ∀ b, ty48 B w b → some b ≠ row) : HeadsIn (ty48 B w') w' hs rs := ⟨h.1, fun j x r h1 h2 => row_grown (h.2 j x r h1 h2) hg hne⟩
theorem ty_on {B : Nat} {w w' : World} {b : Nat} (h : ty48 B w b) (hb : Below w.heap.size w w') : ty48 B w' b := let ⟨hB, c, fz, hc⟩ := h; ⟨hB, c, fz, block_on hc hb⟩
theorem heads_ty_on {B : Nat} {w w' : World} {hs : List Value} {rs : List Rw} (h : HeadsIn (ty48 B w) w hs rs) (hb : Below w.heap.size w w') : HeadsIn (ty48 B w') w' hs rs := (h.on hb).imp (fun _ k => ty_on k hb)
theorem HeadsIn.snoc {Q : Nat → Prop} {w : World} {hs : List Value} {rs : List Rw} {h : Value} {r : Rw} (hh : HeadsIn Q w hs rs) (hr : RowIn Q w h r) : HeadsIn Q w (hs ++ [h]) (rs ++ [r]) := by
  refine ⟨by simp [hh.1], fun j x q h1 h2 => ?_⟩
  by_cases hlt : j < hs.length
  · rw [List.getElem?_append_left hlt] at h1
    rw [List.getElem?_append_left (by rw [← hh.1]; exact hlt)] at h2
    exact hh.2 j x q h1 h2
  · have hj : j = hs.length := by have := (List.getElem?_eq_some_iff.1 h1).1; simp at this; omega
    subst hj
    rw [List.getElem?_append_right (Nat.le_refl _)] at h1
    rw [hh.1, List.getElem?_append_right (Nat.le_refl _)] at h2
    simp at h1 h2
    subst h1 h2
    exact hr
/- One row more in a table of the call's own: the header's slice grows, and the table's second cell is set. -/
theorem row_more {wr W0 w1 : World} {T B3 B : Nat} {rv v' cv : Value} {hs : List Value} {rs : List Rw} {r : Rw} {R : Array Value} (hT : T < B3) (hBw : B ≤ wr.heap.size)
    (hsz : B3 ≤ wr.heap.size) (HK2 : wr.heap[T]? = some (.cells #[cv, rv] 25 (0, 0))) (HO : Own one 1 48 B3 wr rv hs) (HH : HeadsIn (ty48 B wr) wr hs rs) (hW0 : Below wr.heap.size wr W0) (hrow : W0.heap[wr.heap.size]? = some (.cells R 40 (0, 0))) (hR : R.toList = r.flatMap Vl.cells) (hr2 : r.length = 2)
    (HO1 : Own one 1 48 B3 w1 v' (hs ++ [.slice (some ⟨wr.heap.size, 0, none⟩) 2 2])) (HB1 : Below B3 W0 w1) (HG1 : W0.grownBy w1 rv.ownBlock) :
    B3 ≤ (w1.setCell ⟨T, 1, none⟩ v').heap.size ∧ (w1.setCell ⟨T, 1, none⟩ v').heap[T]? = some (.cells #[cv, v'] 25 (0, 0)) ∧ (∀ b, b < T → (w1.setCell ⟨T, 1, none⟩ v').heap[b]? = wr.heap[b]?) ∧
    Own one 1 48 B3 (w1.setCell ⟨T, 1, none⟩ v') v' (hs ++ [.slice (some ⟨wr.heap.size, 0, none⟩) 2 2]) ∧ HeadsIn (ty48 B (w1.setCell ⟨T, 1, none⟩ v')) (w1.setCell ⟨T, 1, none⟩ v') (hs ++ [.slice (some ⟨wr.heap.size, 0, none⟩) 2 2]) (rs ++ [r]) := by
  have K21 : w1.heap[T]? = some (.cells #[cv, rv] 25 (0, 0)) := (HB1.block T hT).trans (block_on HK2 hW0)
  have hne48 : ∀ b, ty48 B w1 b → b ≠ T := fun b hb e => by
    subst e
    obtain ⟨-, c, fz, hc⟩ := hb
    rw [K21] at hc
    cases hc
  refine ⟨?_, ?_, ?_, ?_, ?_⟩
  · rw [World.size_setCell]
    exact Nat.le_trans hsz (Nat.le_trans hW0.size HB1.size)
  · have := heap_setCell_same w1 T 1 _ 25 v' K21
    rw [this]
    rfl
  · intro b hb
    rw [heap_setCell_other _ _ _ _ (by show b ≠ T; omega), HB1.block b (by omega)]
    exact hW0.block b (by omega)
  · refine ⟨HO1.1, HO1.2.elim Or.inl (fun ⟨g, cap, cur, hv, hg, hblk, q⟩ => Or.inr ⟨g, cap, cur, hv, hg, ?_, q⟩)⟩
    rw [heap_setCell_other _ _ _ _ (by show g ≠ T; omega)]
    exact hblk
  · have h0 := heads_ty_on HH hW0
    have ho0 : Own one 1 48 B3 W0 rv hs := HO.on hW0
    have h1 := heads_grown h0 HG1 (fun b hb => own_ne ho0 hb)
    have r0 : RowIn (ty48 B W0) W0 (.slice (some ⟨wr.heap.size, 0, none⟩) 2 2) r := by
      refine SlAt.imp (lit_sl hrow vl_len hR hr2.symm (Nat.le_refl _) (by omega)) (fun b hb => ?_)
      subst hb
      exact ⟨hBw, _, _, hrow⟩
    have r1 := row_grown r0 HG1 (fun b hb => own_ne ho0 hb)
    refine ((h1.snoc r1).set hne48).imp (fun b hb => ?_)
    have hn := hne48 b hb
    obtain ⟨hB, c, fz, hc⟩ := hb
    exact ⟨hB, c, fz, (heap_setCell_other _ _ _ _ (by show b ≠ T; exact hn)).trans hc⟩
theorem alloc_blk2' (w : World) (x y : Obj) : ((w.alloc x).alloc y).heap[w.heap.size + 1]? = some y := by
  have h := alloc_block (w.alloc x) y
  rwa [World.size_alloc] at h
theorem alloc_blk1' (w : World) (x y : Obj) : ((w.alloc x).alloc y).heap[w.heap.size]? = some x := block_on (alloc_block w x) ((Below.refl _ _).alloc (Nat.le_refl _) y)
theorem ext_small (s : ByteArray) (i : Nat) : (s.extract i (i + 1)).size ≤ maxLen := by
  rw [ByteArray.size_extract]; unfold maxLen; omega
/- One header more, as a step of a region that draws its order. -/
theorem step_head {ops : Array Oper} {o : Oper} {a : Act} {w : World} {K : Act → World → Prop} {Q : Exit → Act → World → Prop} {E : Prop} {B g : Nat} {hs : List Value} {v hd : Value}
    (hgd : o.guard = none) (s x : Operand) (ho : o.op = .call { callee := .builtin .append, args := #[s, x], argTypes := #[23, 23] }) (hs' : a.eval s = v) (hx : a.eval x = .slice (some ⟨g, 0, none⟩) 1 1)
    (hown : Own one 1 48 B w v hs) (hblk : w.heap[g]? = some (.cells #[hd] 48 (0, 0))) (h1 : hd.oneCell' = true) (hn : hs.length ≤ 4095) (hB : B ≤ w.heap.size)
    (hK : ∀ v' w', Own one 1 48 B w' v' (hs ++ [hd]) → Below B w w' → w.grownBy w' v.ownBlock → K (a.put o.dst v') w') :
    if Region.wanted o (yielded ops a.tmps) = true then Oper.wp Try.prog o a w K Q else E := by
  have hw : Region.wanted o (yielded ops a.tmps) = true := by simp [Region.wanted, hgd]
  rw [if_pos hw]
  obtain ⟨ht, hkp, i0, z, hi, hz0, hz1, hz2, hzs⟩ := elem35
  refine wp_append_own w s x 23 ho B 48 i0 z 1 i0.bytes ht hi hz0 hz1 rfl hzs hkp v hs.length _ hs' hown ⟨g, 0, none⟩ 1 1 [hd] hx rfl ?_ ?_ ?_ ?_ hB ?_
  · intro j c hj
    have hj0 : j = 0 := by have := (List.getElem?_eq_some_iff.1 hj).1; simpa using this
    subst hj0
    simp at hj
    subst hj
    rw [Addr.add_lit, block_cell hblk]
    rfl
  · intro c hc
    simp at hc
    subst hc
    exact h1
  · unfold maxLen; omega
  · exact Nat.le_trans (Nat.mul_le_mul_left _ hz2) (small1 (by omega))
  · intro v' w' h2 h3 _
    refine hK v' w' ?_ ((Below.refl B w).grown h3 hB (fun j e => (hown.lt j e))) h3
    show w'.ownsRow B 48 1 v' (hs ++ [hd]).length ((hs ++ [hd]).flatMap one)
    rw [List.length_append, List.flatMap_append]; exact h2
theorem below_aa (w : World) (x y : Obj) : Below w.heap.size w ((w.alloc x).alloc y) := ((Below.refl _ w).alloc (Nat.le_refl _) x).alloc (by simp) y
theorem below_aad (w : World) (x y : Obj) : Below w.heap.size w ((w.alloc x).alloc y).drew := (below_aa w x y).drew
theorem below_daa (w : World) (x y : Obj) : Below w.heap.size w ((w.drew.alloc x).alloc y) := ((Below.refl _ w).drew.alloc (Nat.le_refl _) x).alloc (by simp) y
def vS (s : ByteArray) (i : Nat) : Vl := ⟨2, 0, s.extract i (i + 1), 0, 0, 0, 0, 0, 0, 0, 0, ext_small s i⟩
def vInt (n : Int) : Vl := ⟨1, n, ⟨#[]⟩, 0, 0, 0, 0, 0, 0, 0, 0, by decide⟩
def cK : Cl := ⟨⟨#[107]⟩, 2, by decide⟩
def cN : Cl := ⟨⟨#[110]⟩, 1, by decide⟩
def rowS (s : ByteArray) (ns : List Int) (i : Nat) : Rw := [vS s i, vInt ns[i]!]
def encI (n : Int) : List Value := [.int .i64 n]
end Go.Proofs.Ytjekpclbedbaoaa.TN
namespace Go.Proofs.Ytjekpclbedbaoaa.TN
open Go.RowKit Go.Sort Go.Shelf

theorem row_low {w : World} {v : Value} {r : Rw} (h : RowAt w v r) : RowIn (fun b => b < w.heap.size) w v r := by
  obtain ⟨p, cap, hv, hc, hm, hx⟩ := h
  refine ⟨p, cap, hv, hc, hm, fun hne => ?_⟩
  obtain ⟨b, o, hp, hQ, hj⟩ := hx hne
  refine ⟨b, o, hp, ⟨?_, hQ.2⟩, hj⟩
  have h0 : 0 < r.length := List.length_pos_iff.2 hne
  exact block_lt_of_cell (hj 0 _ (get!_some h0) 0 _ rfl)
theorem heads_low {w : World} {hs : List Value} {rs : List Rw} (h : HeadsIn any w hs rs) : HeadsIn (fun b => b < w.heap.size) w hs rs := ⟨h.1, fun j x r h1 h2 => row_low (h.2 j x r h1 h2)⟩
theorem below_d (w : World) : Below w.heap.size w w.drew := (Below.refl _ w).drew
theorem below_ad (w : World) (x : Obj) : Below w.heap.size w (w.alloc x).drew := ((Below.refl _ w).alloc (Nat.le_refl _) x).drew
theorem made_d (w : World) : Own Cl.cells 2 57 w.heap.size (w.alloc (.cells #[] 57)).drew (.slice (some ⟨w.heap.size, 0, none⟩) 0 0) ([] : List Cl) := Own.made Cl.cells 2 57 w.heap.size w (Nat.le_refl _)
set_option maxRecDepth 100000 in
set_option maxHeartbeats 2000000 in
theorem rcanon_q {Q : Nat → Prop} {c r : Value} {cs : List Cl} {hs : List Value} {rs : List Rw} {w : World} (hq : ∀ b, Q b → b < w.heap.size) (hc : ColsAt w c cs) (hr : SlAt any one 1 w r hs) (hh : HeadsIn Q w hs rs) :
    Calls Try.prog 16 #[.agg #[c, r]] w fun e w' => ∃ c' r' hs', e = .returned (.agg #[c', r']) ∧ SlAt (fun b => w.heap.size ≤ b) Cl.cells 2 w' c' cs ∧ SlAt (fun b => w.heap.size ≤ b) one 1 w' r' hs' ∧ HeadsIn Q w' hs' (sortR rs) ∧ Below w.heap.size w w' := by
  have HC := hid hc
  have HR := hid hr
  have HH := hid hh
  obtain ⟨q, cap', rfl, -⟩ := hc
  obtain ⟨p, cap, rfl, -⟩ := hr
  clear hh
  generalize hnc : cs.length = nc at *
  generalize hnr : hs.length = nr at *
  have HNC := hid hnc
  clear hnc hnr
  go_enter Try.func16, Try.ntmps16
  go_wp2
  generalize hO0 : (Obj.cells #[.slice q nc cap', .slice p nr cap] 25 (0, 0)) = O0 at *
  generalize hO1 : (Obj.cells #[.slice none 0 0, .slice none 0 0] 25 (0, 0)) = O1 at *
  have HB := hid (below_aa w O0 O1)
  have K0 := hid (alloc_blk1' w O0 O1)
  have K1 := hid (alloc_blk2' w O0 O1)
  have hsz : w.heap.size + 1 + 1 ≤ ((w.alloc O0).alloc O1).heap.size := by simp
  generalize ((w.alloc O0).alloc O1) = W at *
  subst hO0 hO1
  have k0 := block_cell K0.out
  have l0 := lt_of_block K0.out
  have ka : ∀ (A : Obj) (j : Nat), (W.alloc A).cell? ⟨w.heap.size, j, none⟩ = (#[.slice q nc cap', .slice p nr cap] : Array Value)[j]? := fun A j => block_cell (block_on K0.out ((Below.refl _ W).alloc (Nat.le_refl _) A)) j
  have N1 : Hid True := trivial
  have N2 : Hid True := trivial
  have HBD := hid (SlAt.bound HC.out)
  have hWw : w.heap.size ≤ W.heap.size := HB.out.size
  go_region_law (first
    | (have N1' := N1; refine step_app elem45 cl_len (fun x _ => cl_cells x) rfl (.tmp 3) (.tmp 5) rfl (by simp [Act.eval]; try rfl) (by simp [Act.eval]; try rfl) (made_d W) (SlAt.on HC.out (below_on HB.out (below_ad W _))) (by simpa using HBD.out) (by simp) ?_; intro v2 w2 hown2 hb2 hg2; rw [List.nil_append] at hown2; obtain ⟨pc2, capc2, rfl, -⟩ := Own.sl hown2 cl_len HBD.out; rw [HNC.out] at hown2 ⊢; have HB2 := hid ((below_ad W _).trans hb2); have FC := hid (Own.sl hown2 cl_len HBD.out); have k02 := block_cell (block_on K0.out HB2.out); clear N2 hown2 hb2 hg2)
    | (have N2' := N2; refine step_call rfl (.tmp 8) 23 rfl (by simp [Act.eval]; try rfl) enters38 ?_; refine (sorted_any _ (Nat.le_refl _) (SlAt.on HR.out (by first | exact below_on HB.out (below_d _) | exact below_on HB.out (below_ad _ _))) (HeadsIn.on HH.out (by first | exact below_on HB.out (below_d _) | exact below_on HB.out (below_ad _ _)))).mono ?_; rintro e w1 ⟨v1, h1, rfl, hs1, hh1, hb1⟩; refine ⟨_, rfl, ?_⟩; obtain ⟨pr1, capr1, rfl, -⟩ := id hs1; have HS1 := hid hs1; have HH1 := hid hh1; have HBC := hid hb1; have HB1 : Hid (Below W.heap.size W w1) := (by first | exact below_on (below_d _) hb1 | exact below_on (below_ad _ _) hb1); have k01 := block_cell (block_on K0.out HB1.out); have l01 := lt_of_block (block_on K0.out HB1.out); clear N1 hs1 hh1 hb1)
    | (refine step_call rfl (.tmp 8) 23 rfl (by simp [Act.eval]; try rfl) enters38 ?_; refine (sorted_any _ (Nat.le_refl _) (SlAt.on HR.out (below_on HB.out HB2.out)) (HeadsIn.on HH.out (below_on HB.out HB2.out))).mono ?_; rintro e w1 ⟨v1, h1, rfl, hs1, hh1, hb1⟩; refine ⟨_, rfl, ?_⟩; obtain ⟨pr1, capr1, rfl, -⟩ := id hs1; have GC := hid (FC.out.on hb1); have GR := hid (hs1.imp (fun b hb => Nat.le_trans HB2.out.size hb)); have GH := hid hh1; have GB := hid (below_on HB2.out hb1); have KF := hid (block_on K1.out GB.out); have kf := block_cell KF.out; have ff := frozen_no KF.out; clear hs1 hh1 hb1)
    | (refine step_app elem45 cl_len (fun x _ => cl_cells x) rfl (.tmp 3) (.tmp 5) rfl (by simp [Act.eval]; try rfl) (by simp [Act.eval]; try rfl) (by first | exact (made_d W).on HBC.out | exact Own.made Cl.cells 2 57 W.heap.size w1 HB1.out.size) (SlAt.on HC.out (by first | exact below_on HB.out HB1.out | exact below_on HB.out (HB1.out.alloc HB1.out.size _))) (by simpa using HBD.out) (by first | exact HB1.out.size | (simp; exact Nat.le_trans HB1.out.size (Nat.le_succ _))) ?_; intro v2 w2 hown2 hb2 hg2; rw [List.nil_append] at hown2; obtain ⟨pc2, capc2, rfl, -⟩ := Own.sl hown2 cl_len HBD.out; rw [HNC.out] at hown2 ⊢; have GC := hid (Own.sl hown2 cl_len HBD.out); have GB : Hid (Below W.heap.size W w2) := (by first | exact HB1.out.trans hb2 | exact (HB1.out.alloc HB1.out.size _).trans hb2); have GH := hid (HeadsIn.onB (HeadsIn.on HH1.out (by first | exact Below.refl _ _ | exact (Below.refl _ _).alloc (Nat.le_refl _) _)) hb2 (fun b hb => Nat.lt_of_lt_of_le (hq b hb) hWw)); have GR : Hid (SlAt (fun b => W.heap.size ≤ b) one 1 w2 _ h1) := (by first | exact (SlAt.grown (HS1.out.on (Below.refl _ _)) (by decide) one_len hg2 (fun b hb hlt e => by simp [Value.ownBlock] at e; subst e; simp at hb)).imp (fun b hb => by simp at hb; omega) | exact (SlAt.grown ((SlAt.low HS1.out (by decide) one_len).on ((Below.refl _ _).alloc (Nat.le_refl _) _)) (by decide) one_len hg2 (fun b hb hlt e => by simp [Value.ownBlock] at e; omega)).imp (fun b hb => by simp at hb; omega)); have KF := hid (block_on K1.out GB.out); have kf := block_cell KF.out; have ff := frozen_no KF.out; clear hown2 hb2 hg2))
  all_goals
    go_wp2
    refine bodyPost_ret (v := .agg #[.slice pc2 nc capc2, .slice pr1 h1.length capr1]) ?_ rfl ⟨_, _, h1, rfl, ?_, ?_, ?_, ?_⟩
    · have KF2 := Joins.block_setCell (i := 1) (Joins.block_setCell (i := 0) KF.out (.slice pc2 nc capc2)) (.slice pr1 h1.length capr1)
      clear kf ff
      first
        | generalize ((w1.setCell ⟨w.heap.size + 1, 0, none⟩ (.slice pc2 nc capc2)).setCell ⟨w.heap.size + 1, 1, none⟩ (.slice pr1 h1.length capr1)) = WF at KF2 ⊢; have kcf := block_cell KF2; clear KF2; simp [results, Try.results16, go_sem, kcf]; done
        | generalize ((w2.setCell ⟨w.heap.size + 1, 0, none⟩ (.slice pc2 nc capc2)).setCell ⟨w.heap.size + 1, 1, none⟩ (.slice pr1 h1.length capr1)) = WF at KF2 ⊢; have kcf := block_cell KF2; clear KF2; simp [results, Try.results16, go_sem, kcf]; done
    · exact SlAt.imp (SlAt.set (fun b hb => by omega) (SlAt.set (fun b hb => by omega) GC.out)) (fun b hb => Nat.le_trans hWw hb)
    · exact SlAt.imp (SlAt.set (fun b hb => by omega) (SlAt.set (fun b hb => by omega) GR.out)) (fun b hb => Nat.le_trans hWw hb)
    · exact HeadsIn.set (fun b hb => by have := hq b hb; omega) (HeadsIn.set (fun b hb => by have := hq b hb; omega) GH.out)
    · exact below_set (below_set (below_on HB.out GB.out) (by omega)) (by omega)
theorem rcanon_any {v : Value} {cs : List Cl} {rs : List Rw} {w : World} (hv : TabAt w v cs rs) :
    Calls Try.prog 16 #[v] w fun e w' => ∃ v', e = .returned v' ∧ TabAt w' v' cs (sortR rs) ∧ Below w.heap.size w w' := by
  obtain ⟨c, r, rfl, hc, hs, hr, hh⟩ := hv
  refine (rcanon_q (fun b hb => hb) hc hr (heads_low hh)).mono ?_
  rintro e w' ⟨c', r', hs', rfl, h1, h2, h3, hb⟩
  exact ⟨_, rfl, ⟨c', r', rfl, h1.imp fun _ _ => trivial, hs', h2.imp fun _ _ => trivial, h3.imp fun _ _ => trivial⟩, hb⟩
end Go.Proofs.Ytjekpclbedbaoaa.TN
namespace Go.Proofs.Ytjekpclbedbaoaa.PD
open Go.RowKit Go.Joins Go.Sort

theorem qx_on {B : Nat} {w w' : World} {nv : Value} {qs : List Nx} (h : Qx (fun b => b < B) w nv qs) (hB : B ≤ w.heap.size) (hb : Below w.heap.size w w') : Qx (fun b => b < w'.heap.size) w' nv qs := by
  have hs := hb.size
  have h1 := h.kp (T := fun _ => False) (Kp.of hb) (fun _ _ => id)
  exact ⟨h1.sl.imp (fun b hb => by omega), fun q hq => ⟨(h1.each q hq).l.imp (fun b hb => by omega), (h1.each q hq).n.imp (fun b hb => by omega), (h1.each q hq).g.imp (fun b hb => by omega)⟩⟩
end Go.Proofs.Ytjekpclbedbaoaa.PD
