/-
  catchmentlaw01.ValueSums returns true for every three times eight buckets, and turns nothing older in memory. Condition: the table of the powers of ten of Go's strconv is as it is laid.
-/
import Derived.Test.YtjplnelffiegmaaDoorAddsWalk
import Derived.Deep.DeepCutAuto
import Derived.Deep.RegionHeld
import Derived.Deep.Light
namespace Go.Proofs.YtjplnelffiegmaaDoor
open Go.RowKit Go.Joins Go.Sort
abbrev cells8 (a0 a1 a2 a3 a4 a5 a6 a7 : Int) : Array Value := #[.int .i64 a0, .int .i64 a1, .int .i64 a2, .int .i64 a3, .int .i64 a4, .int .i64 a5, .int .i64 a6, .int .i64 a7]
theorem alloc_block3 (w : World) (x y z : Obj) : (((w.alloc x).alloc y).alloc z).heap[w.heap.size + 1 + 1]? = some z := by
  have h := alloc_block ((w.alloc x).alloc y) z
  rwa [World.size_alloc, World.size_alloc] at h
/- Eleven stores into one block of eleven cells. -/
theorem put11 {w : World} {b : Nat} {k n : Value} {x0 x1 x2 x3 x4 x5 x6 x7 x8 : Value} {t : TypeId} (h : w.heap[b]? = some (.cells #[k, n, x0, x1, x2, x3, x4, x5, x6, x7, x8] t (0, 0))) (v0 v1 v2 v3 v4 v5 v6 v7 v8 v9 v10 : Value) :
    (((((((((((w.setCell ⟨b, 0, none⟩ v0).setCell ⟨b, 1, none⟩ v1).setCell ⟨b, 2, none⟩ v2).setCell ⟨b, 3, none⟩ v3).setCell ⟨b, 4, none⟩ v4).setCell ⟨b, 5, none⟩ v5).setCell ⟨b, 6, none⟩ v6).setCell ⟨b, 7, none⟩ v7).setCell ⟨b, 8, none⟩ v8).setCell ⟨b, 9, none⟩ v9).setCell ⟨b, 10, none⟩ v10).heap[b]? = some (.cells #[v0, v1, v2, v3, v4, v5, v6, v7, v8, v9, v10] t (0, 0)) := by
  have h0 := block_set h 0 v0
  have h1 := block_set h0 1 v1
  have h2 := block_set h1 2 v2
  have h3 := block_set h2 3 v3
  have h4 := block_set h3 4 v4
  have h5 := block_set h4 5 v5
  have h6 := block_set h5 6 v6
  have h7 := block_set h6 7 v7
  have h8 := block_set h7 8 v8
  have h9 := block_set h8 9 v9
  have h10 := block_set h9 10 v10
  simpa using h10
theorem put_other {w : World} {b b' : Nat} {o : Obj} (v0 v1 v2 v3 v4 v5 v6 v7 v8 v9 v10 : Value) (hne : b' ≠ b) (h : w.heap[b']? = some o) : (((((((((((w.setCell ⟨b, 0, none⟩ v0).setCell ⟨b, 1, none⟩ v1).setCell ⟨b, 2, none⟩ v2).setCell ⟨b, 3, none⟩ v3).setCell ⟨b, 4, none⟩ v4).setCell ⟨b, 5, none⟩ v5).setCell ⟨b, 6, none⟩ v6).setCell ⟨b, 7, none⟩ v7).setCell ⟨b, 8, none⟩ v8).setCell ⟨b, 9, none⟩ v9).setCell ⟨b, 10, none⟩ v10).heap[b']? = some o := by
  repeat (rw [Below.heap_setCell _ _ _ _ hne])
  exact h
theorem put_below {w w0 : World} {b : Nat} (v0 v1 v2 v3 v4 v5 v6 v7 v8 v9 v10 : Value) (hb : w0.heap.size ≤ b) (h : Below w0.heap.size w0 w) : Below w0.heap.size w0 (((((((((((w.setCell ⟨b, 0, none⟩ v0).setCell ⟨b, 1, none⟩ v1).setCell ⟨b, 2, none⟩ v2).setCell ⟨b, 3, none⟩ v3).setCell ⟨b, 4, none⟩ v4).setCell ⟨b, 5, none⟩ v5).setCell ⟨b, 6, none⟩ v6).setCell ⟨b, 7, none⟩ v7).setCell ⟨b, 8, none⟩ v8).setCell ⟨b, 9, none⟩ v9).setCell ⟨b, 10, none⟩ v10) := by
  go_grown
theorem on0 {W v v' : World} (h : Below W.heap.size W v) (hb : Below v.heap.size v v') : Below W.heap.size W v' := below_on h hb
theorem on1 {W v v' : World} (h : Below W.heap.size W v) (hb : Below v.drew.heap.size v.drew v') : Below W.heap.size W v' := below_on h (show Below v.heap.size v v' from (Below.refl _ _).drew.trans hb)
theorem on2 {W v v' : World} {o : Obj} (h : Below W.heap.size W v) (hb : Below (v.alloc o).heap.size (v.alloc o) v') : Below W.heap.size W v' := below_on h (below_on ((Below.refl _ _).alloc (Nat.le_refl _) o) hb)
theorem on3 {W v v' : World} {o : Obj} (h : Below W.heap.size W v) (hb : Below (v.alloc o).drew.heap.size (v.alloc o).drew v') : Below W.heap.size W v' := below_on h (below_on ((Below.refl _ _).alloc (Nat.le_refl _) o) (show Below (v.alloc o).heap.size (v.alloc o) v' from (Below.refl _ _).drew.trans hb))
theorem kz2 {v v' : World} {o : Obj} (hb : Below (v.alloc o).heap.size (v.alloc o) v') : v'.heap[v.heap.size]? = some o := block_on (alloc_block v o) hb
theorem kz3 {v v' : World} {o : Obj} (hb : Below (v.alloc o).drew.heap.size (v.alloc o).drew v') : v'.heap[v.heap.size]? = some o := block_on (alloc_block v o) (show Below (v.alloc o).heap.size (v.alloc o) v' from (Below.refl _ _).drew.trans hb)
theorem put_blk {w : World} {b b' : Nat} (v0 v1 v2 v3 v4 v5 v6 v7 v8 v9 v10 : Value) (hne : b' ≠ b) : (((((((((((w.setCell ⟨b, 0, none⟩ v0).setCell ⟨b, 1, none⟩ v1).setCell ⟨b, 2, none⟩ v2).setCell ⟨b, 3, none⟩ v3).setCell ⟨b, 4, none⟩ v4).setCell ⟨b, 5, none⟩ v5).setCell ⟨b, 6, none⟩ v6).setCell ⟨b, 7, none⟩ v7).setCell ⟨b, 8, none⟩ v8).setCell ⟨b, 9, none⟩ v9).setCell ⟨b, 10, none⟩ v10).heap[b']? = w.heap[b']? := by
  rw [Below.heap_setCell _ ⟨b, 10, none⟩ v10 b' hne, Below.heap_setCell _ ⟨b, 9, none⟩ v9 b' hne, Below.heap_setCell _ ⟨b, 8, none⟩ v8 b' hne, Below.heap_setCell _ ⟨b, 7, none⟩ v7 b' hne, Below.heap_setCell _ ⟨b, 6, none⟩ v6 b' hne, Below.heap_setCell _ ⟨b, 5, none⟩ v5 b' hne, Below.heap_setCell _ ⟨b, 4, none⟩ v4 b' hne, Below.heap_setCell _ ⟨b, 3, none⟩ v3 b' hne, Below.heap_setCell _ ⟨b, 2, none⟩ v2 b' hne, Below.heap_setCell _ ⟨b, 1, none⟩ v1 b' hne, Below.heap_setCell _ ⟨b, 0, none⟩ v0 b' hne]
theorem put_cell {w : World} {b b' o : Nat} {x : Value} (v0 v1 v2 v3 v4 v5 v6 v7 v8 v9 v10 : Value) (hne : b' ≠ b) (h : w.cell? ⟨b', o, none⟩ = some x) : (((((((((((w.setCell ⟨b, 0, none⟩ v0).setCell ⟨b, 1, none⟩ v1).setCell ⟨b, 2, none⟩ v2).setCell ⟨b, 3, none⟩ v3).setCell ⟨b, 4, none⟩ v4).setCell ⟨b, 5, none⟩ v5).setCell ⟨b, 6, none⟩ v6).setCell ⟨b, 7, none⟩ v7).setCell ⟨b, 8, none⟩ v8).setCell ⟨b, 9, none⟩ v9).setCell ⟨b, 10, none⟩ v10).cell? ⟨b', o, none⟩ = some x :=
  (World.cell?_of_block (w := w) (put_blk v0 v1 v2 v3 v4 v5 v6 v7 v8 v9 v10 hne)).trans h
theorem kd {v v' : World} {b : Nat} {o : Obj} (h : v.heap[b]? = some o) (hb : Below v.drew.heap.size v.drew v') : v'.heap[b]? = some o := block_on h (show Below v.heap.size v v' from (Below.refl _ _).drew.trans hb)

set_option maxHeartbeats 8000000 in
set_option maxRecDepth 100000 in
theorem valueSums_walk {a0 a1 a2 a3 a4 a5 a6 a7 b0 b1 b2 b3 b4 b5 b6 b7 d0 d1 d2 d3 d4 d5 d6 d7 p0 p1 p2 p3 p4 p5 p6 p7 q0 q1 q2 q3 q4 q5 q6 q7 y0 y1 y2 y3 y4 y5 y6 y7 : Int} {w : World} (hp : SumsAre a0 a1 a2 a3 a4 a5 a6 a7 b0 b1 b2 b3 b4 b5 b6 b7 p0 p1 p2 p3 p4 p5 p6 p7) (hq : SumsAre p0 p1 p2 p3 p4 p5 p6 p7 d0 d1 d2 d3 d4 d5 d6 d7 q0 q1 q2 q3 q4 q5 q6 q7) (hy : SumsAre b0 b1 b2 b3 b4 b5 b6 b7 d0 d1 d2 d3 d4 d5 d6 d7 y0 y1 y2 y3 y4 y5 y6 y7) (hq' : SumsAre a0 a1 a2 a3 a4 a5 a6 a7 y0 y1 y2 y3 y4 y5 y6 y7 q0 q1 q2 q3 q4 q5 q6 q7) (ht : Tab w) :
    Calls Tryd.prog 7 #[H8 a0 a1 a2 a3 a4 a5 a6 a7, H8 b0 b1 b2 b3 b4 b5 b6 b7, H8 d0 d1 d2 d3 d4 d5 d6 d7] w fun e w' => e = .returned (.bool true) ∧ Below w.heap.size w w' := by
  have HT := hid ht
  have HP := hid hp
  have HQ := hid hq
  have HY := hid hy
  have HQ' := hid hq'
  clear ht hp hq hy hq'
  go_enter Tryd.func7, Tryd.ntmps7
  go_wp2_with fail
  have HB := hid (show Below w.heap.size w (((w.alloc (.cells (cells8 a0 a1 a2 a3 a4 a5 a6 a7) 22 (0, 0))).alloc (.cells (cells8 b0 b1 b2 b3 b4 b5 b6 b7) 22 (0, 0))).alloc (.cells (cells8 d0 d1 d2 d3 d4 d5 d6 d7) 22 (0, 0))) from by go_grown)
  have K0 : Hid ((((w.alloc (.cells (cells8 a0 a1 a2 a3 a4 a5 a6 a7) 22 (0, 0))).alloc (.cells (cells8 b0 b1 b2 b3 b4 b5 b6 b7) 22 (0, 0))).alloc (.cells (cells8 d0 d1 d2 d3 d4 d5 d6 d7) 22 (0, 0))).heap[w.heap.size]? = some (.cells (cells8 a0 a1 a2 a3 a4 a5 a6 a7) 22 (0, 0))) := block_on (block_on (alloc_block w (.cells (cells8 a0 a1 a2 a3 a4 a5 a6 a7) 22 (0, 0))) ((Below.refl _ _).alloc (Nat.le_refl _) (.cells (cells8 b0 b1 b2 b3 b4 b5 b6 b7) 22 (0, 0)))) ((Below.refl _ _).alloc (Nat.le_refl _) (.cells (cells8 d0 d1 d2 d3 d4 d5 d6 d7) 22 (0, 0)))
  have K1 : Hid ((((w.alloc (.cells (cells8 a0 a1 a2 a3 a4 a5 a6 a7) 22 (0, 0))).alloc (.cells (cells8 b0 b1 b2 b3 b4 b5 b6 b7) 22 (0, 0))).alloc (.cells (cells8 d0 d1 d2 d3 d4 d5 d6 d7) 22 (0, 0))).heap[w.heap.size + 1]? = some (.cells (cells8 b0 b1 b2 b3 b4 b5 b6 b7) 22 (0, 0))) := by have h := block_on (alloc_block (w.alloc (.cells (cells8 a0 a1 a2 a3 a4 a5 a6 a7) 22 (0, 0))) (.cells (cells8 b0 b1 b2 b3 b4 b5 b6 b7) 22 (0, 0))) ((Below.refl _ _).alloc (Nat.le_refl _) (.cells (cells8 d0 d1 d2 d3 d4 d5 d6 d7) 22 (0, 0))); simp only [World.size_alloc] at h; exact h
  have K2 : Hid ((((w.alloc (.cells (cells8 a0 a1 a2 a3 a4 a5 a6 a7) 22 (0, 0))).alloc (.cells (cells8 b0 b1 b2 b3 b4 b5 b6 b7) 22 (0, 0))).alloc (.cells (cells8 d0 d1 d2 d3 d4 d5 d6 d7) 22 (0, 0))).heap[w.heap.size + 1 + 1]? = some (.cells (cells8 d0 d1 d2 d3 d4 d5 d6 d7) 22 (0, 0))) := by have h := alloc_block ((w.alloc (.cells (cells8 a0 a1 a2 a3 a4 a5 a6 a7) 22 (0, 0))).alloc (.cells (cells8 b0 b1 b2 b3 b4 b5 b6 b7) 22 (0, 0))) (.cells (cells8 d0 d1 d2 d3 d4 d5 d6 d7) 22 (0, 0)); simp only [World.size_alloc] at h; exact h
  generalize (((w.alloc (.cells (cells8 a0 a1 a2 a3 a4 a5 a6 a7) 22 (0, 0))).alloc (.cells (cells8 b0 b1 b2 b3 b4 b5 b6 b7) 22 (0, 0))).alloc (.cells (cells8 d0 d1 d2 d3 d4 d5 d6 d7) 22 (0, 0))) = W0 at *
  have c0 := fun o => block_cell K0.out o
  have l0 := lt_of_block K0.out
  have c1 := fun o => block_cell K1.out o
  have l1 := lt_of_block K1.out
  have c2 := fun o => block_cell K2.out o
  have l2 := lt_of_block K2.out
  refine (shown_any (HT.out.on HB.out)).mono ?_
  rintro e w1 ⟨rfl, hb⟩
  clear c0 l0 c1 l1 c2 l2
  replace K0 := hid (block_on K0.out hb)
  replace K1 := hid (block_on K1.out hb)
  replace K2 := hid (block_on K2.out hb)
  replace HB := hid (below_on HB.out hb)
  clear hb
  have c0 := fun o => block_cell K0.out o
  have l0 := lt_of_block K0.out
  have c1 := fun o => block_cell K1.out o
  have l1 := lt_of_block K1.out
  have c2 := fun o => block_cell K2.out o
  have l2 := lt_of_block K2.out
  go_wp2_with fail
  clear c0 l0 c1 l1 c2 l2
  have K3 := hid (block_on (block_on (alloc_block w1 (.cells (cellsOf 4 0 ⟨#[]⟩ a0 a1 a2 a3 a4 a5 a6 a7) 24 (0, 0))) ((Below.refl _ _).alloc (Nat.le_refl _) (.cells (cellsOf 4 0 ⟨#[]⟩ b0 b1 b2 b3 b4 b5 b6 b7) 24 (0, 0)))) ((Below.refl _ _).alloc (Nat.le_refl _) (.cells (cellsOf 4 0 ⟨#[]⟩ d0 d1 d2 d3 d4 d5 d6 d7) 24 (0, 0))))
  have K4 := hid (block_on (alloc_block2 w1 (.cells (cellsOf 4 0 ⟨#[]⟩ a0 a1 a2 a3 a4 a5 a6 a7) 24 (0, 0)) (.cells (cellsOf 4 0 ⟨#[]⟩ b0 b1 b2 b3 b4 b5 b6 b7) 24 (0, 0))) ((Below.refl _ _).alloc (Nat.le_refl _) (.cells (cellsOf 4 0 ⟨#[]⟩ d0 d1 d2 d3 d4 d5 d6 d7) 24 (0, 0))))
  have K5 := hid (alloc_block3 w1 (.cells (cellsOf 4 0 ⟨#[]⟩ a0 a1 a2 a3 a4 a5 a6 a7) 24 (0, 0)) (.cells (cellsOf 4 0 ⟨#[]⟩ b0 b1 b2 b3 b4 b5 b6 b7) 24 (0, 0)) (.cells (cellsOf 4 0 ⟨#[]⟩ d0 d1 d2 d3 d4 d5 d6 d7) 24 (0, 0)))
  replace K0 := hid (block_on (block_on (block_on K0.out ((Below.refl _ _).alloc (Nat.le_refl _) (.cells (cellsOf 4 0 ⟨#[]⟩ a0 a1 a2 a3 a4 a5 a6 a7) 24 (0, 0)))) ((Below.refl _ _).alloc (Nat.le_refl _) (.cells (cellsOf 4 0 ⟨#[]⟩ b0 b1 b2 b3 b4 b5 b6 b7) 24 (0, 0)))) ((Below.refl _ _).alloc (Nat.le_refl _) (.cells (cellsOf 4 0 ⟨#[]⟩ d0 d1 d2 d3 d4 d5 d6 d7) 24 (0, 0))))
  replace K1 := hid (block_on (block_on (block_on K1.out ((Below.refl _ _).alloc (Nat.le_refl _) (.cells (cellsOf 4 0 ⟨#[]⟩ a0 a1 a2 a3 a4 a5 a6 a7) 24 (0, 0)))) ((Below.refl _ _).alloc (Nat.le_refl _) (.cells (cellsOf 4 0 ⟨#[]⟩ b0 b1 b2 b3 b4 b5 b6 b7) 24 (0, 0)))) ((Below.refl _ _).alloc (Nat.le_refl _) (.cells (cellsOf 4 0 ⟨#[]⟩ d0 d1 d2 d3 d4 d5 d6 d7) 24 (0, 0))))
  replace K2 := hid (block_on (block_on (block_on K2.out ((Below.refl _ _).alloc (Nat.le_refl _) (.cells (cellsOf 4 0 ⟨#[]⟩ a0 a1 a2 a3 a4 a5 a6 a7) 24 (0, 0)))) ((Below.refl _ _).alloc (Nat.le_refl _) (.cells (cellsOf 4 0 ⟨#[]⟩ b0 b1 b2 b3 b4 b5 b6 b7) 24 (0, 0)))) ((Below.refl _ _).alloc (Nat.le_refl _) (.cells (cellsOf 4 0 ⟨#[]⟩ d0 d1 d2 d3 d4 d5 d6 d7) 24 (0, 0))))
  replace HB := hid (below_on (below_on (below_on HB.out ((Below.refl _ _).alloc (Nat.le_refl _) (.cells (cellsOf 4 0 ⟨#[]⟩ a0 a1 a2 a3 a4 a5 a6 a7) 24 (0, 0)))) ((Below.refl _ _).alloc (Nat.le_refl _) (.cells (cellsOf 4 0 ⟨#[]⟩ b0 b1 b2 b3 b4 b5 b6 b7) 24 (0, 0)))) ((Below.refl _ _).alloc (Nat.le_refl _) (.cells (cellsOf 4 0 ⟨#[]⟩ d0 d1 d2 d3 d4 d5 d6 d7) 24 (0, 0))))
  generalize (((w1.alloc (.cells (cellsOf 4 0 ⟨#[]⟩ a0 a1 a2 a3 a4 a5 a6 a7) 24 (0, 0))).alloc (.cells (cellsOf 4 0 ⟨#[]⟩ b0 b1 b2 b3 b4 b5 b6 b7) 24 (0, 0))).alloc (.cells (cellsOf 4 0 ⟨#[]⟩ d0 d1 d2 d3 d4 d5 d6 d7) 24 (0, 0))) = W2 at *
  generalize w1.heap.size = bk3 at *
  have c0 := fun o => block_cell K0.out o
  have l0 := lt_of_block K0.out
  have c1 := fun o => block_cell K1.out o
  have l1 := lt_of_block K1.out
  have c2 := fun o => block_cell K2.out o
  have l2 := lt_of_block K2.out
  have c3 := fun o => block_cell K3.out o
  have l3 := lt_of_block K3.out
  have c4 := fun o => block_cell K4.out o
  have l4 := lt_of_block K4.out
  have c5 := fun o => block_cell K5.out o
  have l5 := lt_of_block K5.out
  refine (add_hist_is HP.out).mono ?_
  rintro e w3 ⟨rfl, hb⟩
  clear c0 l0 c1 l1 c2 l2 c3 l3 c4 l4 c5 l5
  replace K0 := hid (block_on K0.out hb)
  replace K1 := hid (block_on K1.out hb)
  replace K2 := hid (block_on K2.out hb)
  replace K3 := hid (block_on K3.out hb)
  replace K4 := hid (block_on K4.out hb)
  replace K5 := hid (block_on K5.out hb)
  replace HB := hid (below_on HB.out hb)
  clear hb
  have c0 := fun o => block_cell K0.out o
  have l0 := lt_of_block K0.out
  have c1 := fun o => block_cell K1.out o
  have l1 := lt_of_block K1.out
  have c2 := fun o => block_cell K2.out o
  have l2 := lt_of_block K2.out
  have c3 := fun o => block_cell K3.out o
  have l3 := lt_of_block K3.out
  have c4 := fun o => block_cell K4.out o
  have l4 := lt_of_block K4.out
  have c5 := fun o => block_cell K5.out o
  have l5 := lt_of_block K5.out
  go_wp2_with fail
  have m6x0 := l0
  have m6x1 := l1
  have m6x2 := l2
  have m6x3 := l3
  have m6x4 := l4
  have m6x5 := l5
  have mb6 := HB.out.size
  clear c0 l0 c1 l1 c2 l2 c3 l3 c4 l4 c5 l5
  have K6 := hid (alloc_block w3 (.cells (cellsOf 4 0 ⟨#[]⟩ p0 p1 p2 p3 p4 p5 p6 p7) 24 (0, 0)))
  replace K0 := hid (block_on K0.out ((Below.refl _ _).alloc (Nat.le_refl _) (.cells (cellsOf 4 0 ⟨#[]⟩ p0 p1 p2 p3 p4 p5 p6 p7) 24 (0, 0))))
  replace K1 := hid (block_on K1.out ((Below.refl _ _).alloc (Nat.le_refl _) (.cells (cellsOf 4 0 ⟨#[]⟩ p0 p1 p2 p3 p4 p5 p6 p7) 24 (0, 0))))
  replace K2 := hid (block_on K2.out ((Below.refl _ _).alloc (Nat.le_refl _) (.cells (cellsOf 4 0 ⟨#[]⟩ p0 p1 p2 p3 p4 p5 p6 p7) 24 (0, 0))))
  replace K3 := hid (block_on K3.out ((Below.refl _ _).alloc (Nat.le_refl _) (.cells (cellsOf 4 0 ⟨#[]⟩ p0 p1 p2 p3 p4 p5 p6 p7) 24 (0, 0))))
  replace K4 := hid (block_on K4.out ((Below.refl _ _).alloc (Nat.le_refl _) (.cells (cellsOf 4 0 ⟨#[]⟩ p0 p1 p2 p3 p4 p5 p6 p7) 24 (0, 0))))
  replace K5 := hid (block_on K5.out ((Below.refl _ _).alloc (Nat.le_refl _) (.cells (cellsOf 4 0 ⟨#[]⟩ p0 p1 p2 p3 p4 p5 p6 p7) 24 (0, 0))))
  replace HB := hid (below_on HB.out ((Below.refl _ _).alloc (Nat.le_refl _) (.cells (cellsOf 4 0 ⟨#[]⟩ p0 p1 p2 p3 p4 p5 p6 p7) 24 (0, 0))))
  generalize (w3.alloc (.cells (cellsOf 4 0 ⟨#[]⟩ p0 p1 p2 p3 p4 p5 p6 p7) 24 (0, 0))) = W4 at *
  generalize w3.heap.size = bk6 at *
  have c0 := fun o => block_cell K0.out o
  have l0 := lt_of_block K0.out
  have c1 := fun o => block_cell K1.out o
  have l1 := lt_of_block K1.out
  have c2 := fun o => block_cell K2.out o
  have l2 := lt_of_block K2.out
  have c3 := fun o => block_cell K3.out o
  have l3 := lt_of_block K3.out
  have c4 := fun o => block_cell K4.out o
  have l4 := lt_of_block K4.out
  have c5 := fun o => block_cell K5.out o
  have l5 := lt_of_block K5.out
  have c6 := fun o => block_cell K6.out o
  have l6 := lt_of_block K6.out
  have lx := lt_of_block K5.out
  clear lx
  refine (add_hist_is HQ.out).mono ?_
  rintro e w5 ⟨rfl, hb⟩
  clear c0 l0 c1 l1 c2 l2 c3 l3 c4 l4 c5 l5 c6 l6
  replace K0 := hid (block_on K0.out hb)
  replace K1 := hid (block_on K1.out hb)
  replace K2 := hid (block_on K2.out hb)
  replace K3 := hid (block_on K3.out hb)
  replace K4 := hid (block_on K4.out hb)
  replace K5 := hid (block_on K5.out hb)
  replace K6 := hid (block_on K6.out hb)
  replace HB := hid (below_on HB.out hb)
  clear hb
  have c0 := fun o => block_cell K0.out o
  have l0 := lt_of_block K0.out
  have c1 := fun o => block_cell K1.out o
  have l1 := lt_of_block K1.out
  have c2 := fun o => block_cell K2.out o
  have l2 := lt_of_block K2.out
  have c3 := fun o => block_cell K3.out o
  have l3 := lt_of_block K3.out
  have c4 := fun o => block_cell K4.out o
  have l4 := lt_of_block K4.out
  have c5 := fun o => block_cell K5.out o
  have l5 := lt_of_block K5.out
  have c6 := fun o => block_cell K6.out o
  have l6 := lt_of_block K6.out
  have ff := block_frozen K6.out
  go_upto_region 7 with fail
  clear ff
  clear c0 l0 c1 l1 c2 l2 c3 l3 c4 l4 c5 l5 c6 l6
  have KN := hid (put11 K6.out (.int .i64 4) (.int .i64 0) (.string ⟨#[]⟩) (.int .i64 q0) (.int .i64 q1) (.int .i64 q2) (.int .i64 q3) (.int .i64 q4) (.int .i64 q5) (.int .i64 q6) (.int .i64 q7))
  replace K0 := hid (put_other (.int .i64 4) (.int .i64 0) (.string ⟨#[]⟩) (.int .i64 q0) (.int .i64 q1) (.int .i64 q2) (.int .i64 q3) (.int .i64 q4) (.int .i64 q5) (.int .i64 q6) (.int .i64 q7) (show w.heap.size ≠ bk6 by omega) K0.out)
  replace K1 := hid (put_other (.int .i64 4) (.int .i64 0) (.string ⟨#[]⟩) (.int .i64 q0) (.int .i64 q1) (.int .i64 q2) (.int .i64 q3) (.int .i64 q4) (.int .i64 q5) (.int .i64 q6) (.int .i64 q7) (show w.heap.size + 1 ≠ bk6 by omega) K1.out)
  replace K2 := hid (put_other (.int .i64 4) (.int .i64 0) (.string ⟨#[]⟩) (.int .i64 q0) (.int .i64 q1) (.int .i64 q2) (.int .i64 q3) (.int .i64 q4) (.int .i64 q5) (.int .i64 q6) (.int .i64 q7) (show w.heap.size + 1 + 1 ≠ bk6 by omega) K2.out)
  replace K3 := hid (put_other (.int .i64 4) (.int .i64 0) (.string ⟨#[]⟩) (.int .i64 q0) (.int .i64 q1) (.int .i64 q2) (.int .i64 q3) (.int .i64 q4) (.int .i64 q5) (.int .i64 q6) (.int .i64 q7) (show bk3 ≠ bk6 by omega) K3.out)
  replace K4 := hid (put_other (.int .i64 4) (.int .i64 0) (.string ⟨#[]⟩) (.int .i64 q0) (.int .i64 q1) (.int .i64 q2) (.int .i64 q3) (.int .i64 q4) (.int .i64 q5) (.int .i64 q6) (.int .i64 q7) (show bk3 + 1 ≠ bk6 by omega) K4.out)
  replace K5 := hid (put_other (.int .i64 4) (.int .i64 0) (.string ⟨#[]⟩) (.int .i64 q0) (.int .i64 q1) (.int .i64 q2) (.int .i64 q3) (.int .i64 q4) (.int .i64 q5) (.int .i64 q6) (.int .i64 q7) (show bk3 + 1 + 1 ≠ bk6 by omega) K5.out)
  replace HB := hid (put_below (.int .i64 4) (.int .i64 0) (.string ⟨#[]⟩) (.int .i64 q0) (.int .i64 q1) (.int .i64 q2) (.int .i64 q3) (.int .i64 q4) (.int .i64 q5) (.int .i64 q6) (.int .i64 q7) (show w.heap.size ≤ bk6 by omega) HB.out)
  replace K6 := KN
  clear KN
  generalize (((((((((((w5.setCell ⟨bk6, 0, none⟩ (.int .i64 4)).setCell ⟨bk6, 1, none⟩ (.int .i64 0)).setCell ⟨bk6, 2, none⟩ (.string ⟨#[]⟩)).setCell ⟨bk6, 3, none⟩ (.int .i64 q0)).setCell ⟨bk6, 4, none⟩ (.int .i64 q1)).setCell ⟨bk6, 5, none⟩ (.int .i64 q2)).setCell ⟨bk6, 6, none⟩ (.int .i64 q3)).setCell ⟨bk6, 7, none⟩ (.int .i64 q4)).setCell ⟨bk6, 8, none⟩ (.int .i64 q5)).setCell ⟨bk6, 9, none⟩ (.int .i64 q6)).setCell ⟨bk6, 10, none⟩ (.int .i64 q7)) = W6 at *
  have c0 := fun o => block_cell K0.out o
  have l0 := lt_of_block K0.out
  have c1 := fun o => block_cell K1.out o
  have l1 := lt_of_block K1.out
  have c2 := fun o => block_cell K2.out o
  have l2 := lt_of_block K2.out
  have c3 := fun o => block_cell K3.out o
  have l3 := lt_of_block K3.out
  have c4 := fun o => block_cell K4.out o
  have l4 := lt_of_block K4.out
  have c5 := fun o => block_cell K5.out o
  have l5 := lt_of_block K5.out
  have c6 := fun o => block_cell K6.out o
  have l6 := lt_of_block K6.out
  go_wp2_with fail
  refine (add_hist_is HY.out).mono ?_
  rintro e w7 ⟨rfl, hb⟩
  clear c0 l0 c1 l1 c2 l2 c3 l3 c4 l4 c5 l5 c6 l6
  replace K0 := hid (block_on K0.out hb)
  replace K1 := hid (block_on K1.out hb)
  replace K2 := hid (block_on K2.out hb)
  replace K3 := hid (block_on K3.out hb)
  replace K4 := hid (block_on K4.out hb)
  replace K5 := hid (block_on K5.out hb)
  replace K6 := hid (block_on K6.out hb)
  replace HB := hid (below_on HB.out hb)
  clear hb
  have c0 := fun o => block_cell K0.out o
  have l0 := lt_of_block K0.out
  have c1 := fun o => block_cell K1.out o
  have l1 := lt_of_block K1.out
  have c2 := fun o => block_cell K2.out o
  have l2 := lt_of_block K2.out
  have c3 := fun o => block_cell K3.out o
  have l3 := lt_of_block K3.out
  have c4 := fun o => block_cell K4.out o
  have l4 := lt_of_block K4.out
  have c5 := fun o => block_cell K5.out o
  have l5 := lt_of_block K5.out
  have c6 := fun o => block_cell K6.out o
  have l6 := lt_of_block K6.out
  go_wp2_with fail
  have m7x0 := l0
  have m7x1 := l1
  have m7x2 := l2
  have m7x3 := l3
  have m7x4 := l4
  have m7x5 := l5
  have m7x6 := l6
  have mb7 := HB.out.size
  clear c0 l0 c1 l1 c2 l2 c3 l3 c4 l4 c5 l5 c6 l6
  have K7 := hid (alloc_block w7 (.cells (cellsOf 4 0 ⟨#[]⟩ y0 y1 y2 y3 y4 y5 y6 y7) 24 (0, 0)))
  replace K0 := hid (block_on K0.out ((Below.refl _ _).alloc (Nat.le_refl _) (.cells (cellsOf 4 0 ⟨#[]⟩ y0 y1 y2 y3 y4 y5 y6 y7) 24 (0, 0))))
  replace K1 := hid (block_on K1.out ((Below.refl _ _).alloc (Nat.le_refl _) (.cells (cellsOf 4 0 ⟨#[]⟩ y0 y1 y2 y3 y4 y5 y6 y7) 24 (0, 0))))
  replace K2 := hid (block_on K2.out ((Below.refl _ _).alloc (Nat.le_refl _) (.cells (cellsOf 4 0 ⟨#[]⟩ y0 y1 y2 y3 y4 y5 y6 y7) 24 (0, 0))))
  replace K3 := hid (block_on K3.out ((Below.refl _ _).alloc (Nat.le_refl _) (.cells (cellsOf 4 0 ⟨#[]⟩ y0 y1 y2 y3 y4 y5 y6 y7) 24 (0, 0))))
  replace K4 := hid (block_on K4.out ((Below.refl _ _).alloc (Nat.le_refl _) (.cells (cellsOf 4 0 ⟨#[]⟩ y0 y1 y2 y3 y4 y5 y6 y7) 24 (0, 0))))
  replace K5 := hid (block_on K5.out ((Below.refl _ _).alloc (Nat.le_refl _) (.cells (cellsOf 4 0 ⟨#[]⟩ y0 y1 y2 y3 y4 y5 y6 y7) 24 (0, 0))))
  replace K6 := hid (block_on K6.out ((Below.refl _ _).alloc (Nat.le_refl _) (.cells (cellsOf 4 0 ⟨#[]⟩ y0 y1 y2 y3 y4 y5 y6 y7) 24 (0, 0))))
  replace HB := hid (below_on HB.out ((Below.refl _ _).alloc (Nat.le_refl _) (.cells (cellsOf 4 0 ⟨#[]⟩ y0 y1 y2 y3 y4 y5 y6 y7) 24 (0, 0))))
  generalize (w7.alloc (.cells (cellsOf 4 0 ⟨#[]⟩ y0 y1 y2 y3 y4 y5 y6 y7) 24 (0, 0))) = W8 at *
  generalize w7.heap.size = bk7 at *
  have c0 := fun o => block_cell K0.out o
  have l0 := lt_of_block K0.out
  have c1 := fun o => block_cell K1.out o
  have l1 := lt_of_block K1.out
  have c2 := fun o => block_cell K2.out o
  have l2 := lt_of_block K2.out
  have c3 := fun o => block_cell K3.out o
  have l3 := lt_of_block K3.out
  have c4 := fun o => block_cell K4.out o
  have l4 := lt_of_block K4.out
  have c5 := fun o => block_cell K5.out o
  have l5 := lt_of_block K5.out
  have c6 := fun o => block_cell K6.out o
  have l6 := lt_of_block K6.out
  have c7 := fun o => block_cell K7.out o
  have l7 := lt_of_block K7.out
  refine (add_hist_is HQ'.out).mono ?_
  rintro e w9 ⟨rfl, hb⟩
  clear c0 l0 c1 l1 c2 l2 c3 l3 c4 l4 c5 l5 c6 l6 c7 l7
  replace K0 := hid (block_on K0.out hb)
  replace K1 := hid (block_on K1.out hb)
  replace K2 := hid (block_on K2.out hb)
  replace K3 := hid (block_on K3.out hb)
  replace K4 := hid (block_on K4.out hb)
  replace K5 := hid (block_on K5.out hb)
  replace K6 := hid (block_on K6.out hb)
  replace K7 := hid (block_on K7.out hb)
  replace HB := hid (below_on HB.out hb)
  clear hb
  have c0 := fun o => block_cell K0.out o
  have l0 := lt_of_block K0.out
  have c1 := fun o => block_cell K1.out o
  have l1 := lt_of_block K1.out
  have c2 := fun o => block_cell K2.out o
  have l2 := lt_of_block K2.out
  have c3 := fun o => block_cell K3.out o
  have l3 := lt_of_block K3.out
  have c4 := fun o => block_cell K4.out o
  have l4 := lt_of_block K4.out
  have c5 := fun o => block_cell K5.out o
  have l5 := lt_of_block K5.out
  have c6 := fun o => block_cell K6.out o
  have l6 := lt_of_block K6.out
  have c7 := fun o => block_cell K7.out o
  have l7 := lt_of_block K7.out
  have ff := block_frozen K7.out
  go_upto_region 9 with fail
  clear ff
  clear c0 l0 c1 l1 c2 l2 c3 l3 c4 l4 c5 l5 c6 l6 c7 l7
  have KN := hid (put11 K7.out (.int .i64 4) (.int .i64 0) (.string ⟨#[]⟩) (.int .i64 q0) (.int .i64 q1) (.int .i64 q2) (.int .i64 q3) (.int .i64 q4) (.int .i64 q5) (.int .i64 q6) (.int .i64 q7))
  replace K0 := hid (put_other (.int .i64 4) (.int .i64 0) (.string ⟨#[]⟩) (.int .i64 q0) (.int .i64 q1) (.int .i64 q2) (.int .i64 q3) (.int .i64 q4) (.int .i64 q5) (.int .i64 q6) (.int .i64 q7) (show w.heap.size ≠ bk7 by omega) K0.out)
  replace K1 := hid (put_other (.int .i64 4) (.int .i64 0) (.string ⟨#[]⟩) (.int .i64 q0) (.int .i64 q1) (.int .i64 q2) (.int .i64 q3) (.int .i64 q4) (.int .i64 q5) (.int .i64 q6) (.int .i64 q7) (show w.heap.size + 1 ≠ bk7 by omega) K1.out)
  replace K2 := hid (put_other (.int .i64 4) (.int .i64 0) (.string ⟨#[]⟩) (.int .i64 q0) (.int .i64 q1) (.int .i64 q2) (.int .i64 q3) (.int .i64 q4) (.int .i64 q5) (.int .i64 q6) (.int .i64 q7) (show w.heap.size + 1 + 1 ≠ bk7 by omega) K2.out)
  replace K3 := hid (put_other (.int .i64 4) (.int .i64 0) (.string ⟨#[]⟩) (.int .i64 q0) (.int .i64 q1) (.int .i64 q2) (.int .i64 q3) (.int .i64 q4) (.int .i64 q5) (.int .i64 q6) (.int .i64 q7) (show bk3 ≠ bk7 by omega) K3.out)
  replace K4 := hid (put_other (.int .i64 4) (.int .i64 0) (.string ⟨#[]⟩) (.int .i64 q0) (.int .i64 q1) (.int .i64 q2) (.int .i64 q3) (.int .i64 q4) (.int .i64 q5) (.int .i64 q6) (.int .i64 q7) (show bk3 + 1 ≠ bk7 by omega) K4.out)
  replace K5 := hid (put_other (.int .i64 4) (.int .i64 0) (.string ⟨#[]⟩) (.int .i64 q0) (.int .i64 q1) (.int .i64 q2) (.int .i64 q3) (.int .i64 q4) (.int .i64 q5) (.int .i64 q6) (.int .i64 q7) (show bk3 + 1 + 1 ≠ bk7 by omega) K5.out)
  replace K6 := hid (put_other (.int .i64 4) (.int .i64 0) (.string ⟨#[]⟩) (.int .i64 q0) (.int .i64 q1) (.int .i64 q2) (.int .i64 q3) (.int .i64 q4) (.int .i64 q5) (.int .i64 q6) (.int .i64 q7) (show bk6 ≠ bk7 by omega) K6.out)
  replace HB := hid (put_below (.int .i64 4) (.int .i64 0) (.string ⟨#[]⟩) (.int .i64 q0) (.int .i64 q1) (.int .i64 q2) (.int .i64 q3) (.int .i64 q4) (.int .i64 q5) (.int .i64 q6) (.int .i64 q7) (show w.heap.size ≤ bk7 by omega) HB.out)
  replace K7 := KN
  clear KN
  generalize (((((((((((w9.setCell ⟨bk7, 0, none⟩ (.int .i64 4)).setCell ⟨bk7, 1, none⟩ (.int .i64 0)).setCell ⟨bk7, 2, none⟩ (.string ⟨#[]⟩)).setCell ⟨bk7, 3, none⟩ (.int .i64 q0)).setCell ⟨bk7, 4, none⟩ (.int .i64 q1)).setCell ⟨bk7, 5, none⟩ (.int .i64 q2)).setCell ⟨bk7, 6, none⟩ (.int .i64 q3)).setCell ⟨bk7, 7, none⟩ (.int .i64 q4)).setCell ⟨bk7, 8, none⟩ (.int .i64 q5)).setCell ⟨bk7, 9, none⟩ (.int .i64 q6)).setCell ⟨bk7, 10, none⟩ (.int .i64 q7)) = W10 at *
  have c0 := fun o => block_cell K0.out o
  have l0 := lt_of_block K0.out
  have c1 := fun o => block_cell K1.out o
  have l1 := lt_of_block K1.out
  have c2 := fun o => block_cell K2.out o
  have l2 := lt_of_block K2.out
  have c3 := fun o => block_cell K3.out o
  have l3 := lt_of_block K3.out
  have c4 := fun o => block_cell K4.out o
  have l4 := lt_of_block K4.out
  have c5 := fun o => block_cell K5.out o
  have l5 := lt_of_block K5.out
  have c6 := fun o => block_cell K6.out o
  have l6 := lt_of_block K6.out
  have c7 := fun o => block_cell K7.out o
  have l7 := lt_of_block K7.out
  clear c0 l0 c1 l1 c2 l2 c3 l3 c4 l4 c5 l5 c6 l6 c7 l7
  have HBc := Below.refl W10.heap.size W10
  have hy0 : w.heap.size ≠ W10.heap.size := Nat.ne_of_lt (lt_of_block K0.out)
  have hy1 : w.heap.size + 1 ≠ W10.heap.size := Nat.ne_of_lt (lt_of_block K1.out)
  have hz0 := lt_of_block K0.out
  have hz1 := lt_of_block K1.out
  have hq0 : W10.cell? ⟨w.heap.size, 0, none⟩ = some (.int .i64 a0) := block_cell K0.out 0
  have hq1 : W10.cell? ⟨w.heap.size + 1, 0, none⟩ = some (.int .i64 b0) := block_cell K1.out 0
  go_cut [17, 18] (fun s17 s18 wx => ∃ bp, s17 = .pointer (some ⟨bp, 0, none⟩) ∧ s18 = .int .i64 0 ∧ Hid (W10.heap.size ≤ bp) ∧ Hid (wx.heap[bp]? = some (.cells (cellsOf 1 p0 ⟨#[]⟩ 0 0 0 0 0 0 0 0) 24 (0, 0))) ∧ Hid (Below W10.heap.size W10 wx))
  case first =>
    go_region_held (fun w' => w'.cell? ⟨w.heap.size, 0, none⟩ = some (.int .i64 a0) ∧ w'.cell? ⟨w.heap.size + 1, 0, none⟩ = some (.int .i64 b0)) (first | go_keep | (refine ⟨put_cell _ _ _ _ _ _ _ _ _ _ _ (by omega) ?_, put_cell _ _ _ _ _ _ _ _ _ _ _ (by omega) ?_⟩ <;> simp [*]))
      (first
        | (go_at_call 20; refine (ofInt_any).mono ?_; rintro e v9 ⟨rfl, hb⟩; (first | (replace HBc := on3 HBc hb; have KZ := kz3 hb; have cz := (fun o => block_cell KZ o); have fz := (fun o => block_frozen KZ o)) | (replace HBc := on2 HBc hb; have KZ := kz2 hb; have cz := (fun o => block_cell KZ o); have fz := (fun o => block_frozen KZ o)) | (replace HBc := on1 HBc hb) | (replace KZ := block_on KZ hb; replace HBc := on0 HBc hb; have cz := (fun o => block_cell KZ o); have fz := (fun o => block_frozen KZ o)) | (replace HBc := on0 HBc hb)); have hq0 : v9.cell? ⟨w.heap.size, 0, none⟩ = some (.int .i64 a0) := block_cell (block_on K0.out HBc) 0; have hz0 : w.heap.size < v9.heap.size := lt_of_block (block_on K0.out HBc); have hy0 : w.heap.size ≠ v9.heap.size := Nat.ne_of_lt hz0; have hq1 : v9.cell? ⟨w.heap.size + 1, 0, none⟩ = some (.int .i64 b0) := block_cell (block_on K1.out HBc) 0; have hz1 : w.heap.size + 1 < v9.heap.size := lt_of_block (block_on K1.out HBc); have hy1 : w.heap.size + 1 ≠ v9.heap.size := Nat.ne_of_lt hz1; have s9 := HBc.size; clear hb)
        | (go_at_call 18; refine (add_int_is p0 HP.out.1).mono ?_; rintro e v9 ⟨rfl, hb⟩; (first | (replace HBc := on3 HBc hb; have KZ := kz3 hb; have cz := (fun o => block_cell KZ o); have fz := (fun o => block_frozen KZ o)) | (replace HBc := on2 HBc hb; have KZ := kz2 hb; have cz := (fun o => block_cell KZ o); have fz := (fun o => block_frozen KZ o)) | (replace HBc := on1 HBc hb) | (replace KZ := block_on KZ hb; replace HBc := on0 HBc hb; have cz := (fun o => block_cell KZ o); have fz := (fun o => block_frozen KZ o)) | (replace HBc := on0 HBc hb)); have hq0 : v9.cell? ⟨w.heap.size, 0, none⟩ = some (.int .i64 a0) := block_cell (block_on K0.out HBc) 0; have hz0 : w.heap.size < v9.heap.size := lt_of_block (block_on K0.out HBc); have hy0 : w.heap.size ≠ v9.heap.size := Nat.ne_of_lt hz0; have hq1 : v9.cell? ⟨w.heap.size + 1, 0, none⟩ = some (.int .i64 b0) := block_cell (block_on K1.out HBc) 0; have hz1 : w.heap.size + 1 < v9.heap.size := lt_of_block (block_on K1.out HBc); have hy1 : w.heap.size + 1 ≠ v9.heap.size := Nat.ne_of_lt hz1; have s9 := HBc.size; clear hb))
    all_goals
      go_wp2_with fail
      go_meet
      go_light
      first
        | exact ⟨_, rfl, rfl, HBc.size, alloc_block _ _, below_on HBc ((Below.refl _ _).alloc (Nat.le_refl _) _)⟩
        | exact ⟨_, rfl, rfl, (by show _ ≤ _; omega), put11 KZ _ _ _ _ _ _ _ _ _ _ _, put_below _ _ _ _ _ _ _ _ _ _ _ (by omega) HBc⟩
  case rest =>
  obtain ⟨bp, rfl, rfl, HBP, KP, HBx⟩ := hcut
  clear HBc hy0 hy1 hz0 hz1 hq0 hq1
  have HBc := HBx.out
  clear HBx
  go_upto_region 10 with fail
  have KZ := KP.out
  have cz := (fun o => block_cell KZ o)
  have fz := (fun o => block_frozen KZ o)
  have hq0 : wc.cell? ⟨w.heap.size + 1 + 1, 0, none⟩ = some (.int .i64 d0) := block_cell (block_on K2.out HBc) 0
  have hz0 : w.heap.size + 1 + 1 < W10.heap.size := lt_of_block K2.out
  have hy0 : W10.heap.size ≤ bp := HBP.out
  go_cut [19] (fun s19 wx => s19 = .int .i64 0 ∧ Hid (wx.heap[bp]? = some (.cells (cellsOf 1 q0 ⟨#[]⟩ 0 0 0 0 0 0 0 0) 24 (0, 0))) ∧ Hid (Below W10.heap.size W10 wx))
  case first =>
    go_region_with (first
        | (go_at_call 20; refine (ofInt_any).mono ?_; rintro e v9 ⟨rfl, hb⟩; (first | (replace KZ := kd KZ hb; replace HBc := on1 HBc hb; have cz := (fun o => block_cell KZ o); have fz := (fun o => block_frozen KZ o)) | (replace KZ := block_on KZ hb; replace HBc := on0 HBc hb; have cz := (fun o => block_cell KZ o); have fz := (fun o => block_frozen KZ o))); have hq0 : v9.cell? ⟨w.heap.size + 1 + 1, 0, none⟩ = some (.int .i64 d0) := block_cell (block_on K2.out HBc) 0; have hz0 : w.heap.size + 1 + 1 < v9.heap.size := lt_of_block (block_on K2.out HBc); clear hb)
        | (go_at_call 18; refine (add_int_is q0 HQ.out.1).mono ?_; rintro e v9 ⟨rfl, hb⟩; (first | (replace KZ := kd KZ hb; replace HBc := on1 HBc hb; have cz := (fun o => block_cell KZ o); have fz := (fun o => block_frozen KZ o)) | (replace KZ := block_on KZ hb; replace HBc := on0 HBc hb; have cz := (fun o => block_cell KZ o); have fz := (fun o => block_frozen KZ o))); have hq0 : v9.cell? ⟨w.heap.size + 1 + 1, 0, none⟩ = some (.int .i64 d0) := block_cell (block_on K2.out HBc) 0; have hz0 : w.heap.size + 1 + 1 < v9.heap.size := lt_of_block (block_on K2.out HBc); clear hb))
    all_goals
      go_wp2_with fail
      go_meet
      go_light
      exact ⟨rfl, put11 KZ _ _ _ _ _ _ _ _ _ _ _, put_below _ _ _ _ _ _ _ _ _ _ _ (by omega) HBc⟩
  case rest =>
  obtain ⟨rfl, K8, HBx⟩ := hcut
  replace K0 := hid (block_on K0.out HBx.out)
  replace K1 := hid (block_on K1.out HBx.out)
  replace K2 := hid (block_on K2.out HBx.out)
  replace K3 := hid (block_on K3.out HBx.out)
  replace K4 := hid (block_on K4.out HBx.out)
  replace K5 := hid (block_on K5.out HBx.out)
  replace K6 := hid (block_on K6.out HBx.out)
  replace K7 := hid (block_on K7.out HBx.out)
  replace HB := hid (below_on HB.out HBx.out)
  clear HBc hy0 hz0 hq0 KZ cz fz KP HBP HBx
  generalize wc = B2 at *
  go_upto_region 11 with fail
  have HBc := Below.refl B2.heap.size B2
  have hy0 : w.heap.size + 1 ≠ B2.heap.size := Nat.ne_of_lt (lt_of_block K1.out)
  have hy1 : w.heap.size + 1 + 1 ≠ B2.heap.size := Nat.ne_of_lt (lt_of_block K2.out)
  have hz0 := lt_of_block K1.out
  have hz1 := lt_of_block K2.out
  have hq0 : B2.cell? ⟨w.heap.size + 1, 0, none⟩ = some (.int .i64 b0) := block_cell K1.out 0
  have hq1 : B2.cell? ⟨w.heap.size + 1 + 1, 0, none⟩ = some (.int .i64 d0) := block_cell K2.out 0
  go_cut [20, 21] (fun s17 s18 wx => ∃ bp, s17 = .pointer (some ⟨bp, 0, none⟩) ∧ s18 = .int .i64 0 ∧ Hid (B2.heap.size ≤ bp) ∧ Hid (wx.heap[bp]? = some (.cells (cellsOf 1 y0 ⟨#[]⟩ 0 0 0 0 0 0 0 0) 24 (0, 0))) ∧ Hid (Below B2.heap.size B2 wx))
  case first =>
    go_region_held (fun w' => w'.cell? ⟨w.heap.size + 1, 0, none⟩ = some (.int .i64 b0) ∧ w'.cell? ⟨w.heap.size + 1 + 1, 0, none⟩ = some (.int .i64 d0)) (first | go_keep | (refine ⟨put_cell _ _ _ _ _ _ _ _ _ _ _ (by omega) ?_, put_cell _ _ _ _ _ _ _ _ _ _ _ (by omega) ?_⟩ <;> simp [*]))
      (first
        | (go_at_call 20; refine (ofInt_any).mono ?_; rintro e v9 ⟨rfl, hb⟩; (first | (replace HBc := on3 HBc hb; have KZ := kz3 hb; have cz := (fun o => block_cell KZ o); have fz := (fun o => block_frozen KZ o)) | (replace HBc := on2 HBc hb; have KZ := kz2 hb; have cz := (fun o => block_cell KZ o); have fz := (fun o => block_frozen KZ o)) | (replace HBc := on1 HBc hb) | (replace KZ := block_on KZ hb; replace HBc := on0 HBc hb; have cz := (fun o => block_cell KZ o); have fz := (fun o => block_frozen KZ o)) | (replace HBc := on0 HBc hb)); have hq0 : v9.cell? ⟨w.heap.size + 1, 0, none⟩ = some (.int .i64 b0) := block_cell (block_on K1.out HBc) 0; have hz0 : w.heap.size + 1 < v9.heap.size := lt_of_block (block_on K1.out HBc); have hy0 : w.heap.size + 1 ≠ v9.heap.size := Nat.ne_of_lt hz0; have hq1 : v9.cell? ⟨w.heap.size + 1 + 1, 0, none⟩ = some (.int .i64 d0) := block_cell (block_on K2.out HBc) 0; have hz1 : w.heap.size + 1 + 1 < v9.heap.size := lt_of_block (block_on K2.out HBc); have hy1 : w.heap.size + 1 + 1 ≠ v9.heap.size := Nat.ne_of_lt hz1; have s9 := HBc.size; clear hb)
        | (go_at_call 18; refine (add_int_is y0 HY.out.1).mono ?_; rintro e v9 ⟨rfl, hb⟩; (first | (replace HBc := on3 HBc hb; have KZ := kz3 hb; have cz := (fun o => block_cell KZ o); have fz := (fun o => block_frozen KZ o)) | (replace HBc := on2 HBc hb; have KZ := kz2 hb; have cz := (fun o => block_cell KZ o); have fz := (fun o => block_frozen KZ o)) | (replace HBc := on1 HBc hb) | (replace KZ := block_on KZ hb; replace HBc := on0 HBc hb; have cz := (fun o => block_cell KZ o); have fz := (fun o => block_frozen KZ o)) | (replace HBc := on0 HBc hb)); have hq0 : v9.cell? ⟨w.heap.size + 1, 0, none⟩ = some (.int .i64 b0) := block_cell (block_on K1.out HBc) 0; have hz0 : w.heap.size + 1 < v9.heap.size := lt_of_block (block_on K1.out HBc); have hy0 : w.heap.size + 1 ≠ v9.heap.size := Nat.ne_of_lt hz0; have hq1 : v9.cell? ⟨w.heap.size + 1 + 1, 0, none⟩ = some (.int .i64 d0) := block_cell (block_on K2.out HBc) 0; have hz1 : w.heap.size + 1 + 1 < v9.heap.size := lt_of_block (block_on K2.out HBc); have hy1 : w.heap.size + 1 + 1 ≠ v9.heap.size := Nat.ne_of_lt hz1; have s9 := HBc.size; clear hb))
    all_goals
      go_wp2_with fail
      go_meet
      go_light
      first
        | exact ⟨_, rfl, rfl, HBc.size, alloc_block _ _, below_on HBc ((Below.refl _ _).alloc (Nat.le_refl _) _)⟩
        | exact ⟨_, rfl, rfl, (by show _ ≤ _; omega), put11 KZ _ _ _ _ _ _ _ _ _ _ _, put_below _ _ _ _ _ _ _ _ _ _ _ (by omega) HBc⟩
  case rest =>
  obtain ⟨bq, rfl, rfl, HBP, KP, HBx⟩ := hcut
  clear HBc hy0 hy1 hz0 hz1 hq0 hq1
  have HBc := HBx.out
  clear HBx
  go_upto_region 12 with fail
  have KZ := KP.out
  have cz := (fun o => block_cell KZ o)
  have fz := (fun o => block_frozen KZ o)
  have hq0 : wc.cell? ⟨w.heap.size, 0, none⟩ = some (.int .i64 a0) := block_cell (block_on K0.out HBc) 0
  have hz0 : w.heap.size < B2.heap.size := lt_of_block K0.out
  have hy0 : B2.heap.size ≤ bq := HBP.out
  go_cut [22] (fun s19 wx => s19 = .int .i64 0 ∧ Hid (wx.heap[bq]? = some (.cells (cellsOf 1 q0 ⟨#[]⟩ 0 0 0 0 0 0 0 0) 24 (0, 0))) ∧ Hid (Below B2.heap.size B2 wx))
  case first =>
    go_region_with (first
        | (go_at_call 20; refine (ofInt_any).mono ?_; rintro e v9 ⟨rfl, hb⟩; (first | (replace KZ := kd KZ hb; replace HBc := on1 HBc hb; have cz := (fun o => block_cell KZ o); have fz := (fun o => block_frozen KZ o)) | (replace KZ := block_on KZ hb; replace HBc := on0 HBc hb; have cz := (fun o => block_cell KZ o); have fz := (fun o => block_frozen KZ o))); have hq0 : v9.cell? ⟨w.heap.size, 0, none⟩ = some (.int .i64 a0) := block_cell (block_on K0.out HBc) 0; have hz0 : w.heap.size < v9.heap.size := lt_of_block (block_on K0.out HBc); clear hb)
        | (go_at_call 18; refine (add_int_is q0 HQ'.out.1).mono ?_; rintro e v9 ⟨rfl, hb⟩; (first | (replace KZ := kd KZ hb; replace HBc := on1 HBc hb; have cz := (fun o => block_cell KZ o); have fz := (fun o => block_frozen KZ o)) | (replace KZ := block_on KZ hb; replace HBc := on0 HBc hb; have cz := (fun o => block_cell KZ o); have fz := (fun o => block_frozen KZ o))); have hq0 : v9.cell? ⟨w.heap.size, 0, none⟩ = some (.int .i64 a0) := block_cell (block_on K0.out HBc) 0; have hz0 : w.heap.size < v9.heap.size := lt_of_block (block_on K0.out HBc); clear hb))
    all_goals
      go_wp2_with fail
      go_meet
      go_light
      exact ⟨rfl, put11 KZ _ _ _ _ _ _ _ _ _ _ _, put_below _ _ _ _ _ _ _ _ _ _ _ (by omega) HBc⟩
  case rest =>
  obtain ⟨rfl, K9, HBx⟩ := hcut
  clear HBc hy0 hz0 hq0 KZ cz fz KP HBP
  have c6 := fun o => block_cell (block_on K6.out HBx.out) o
  have c7 := fun o => block_cell (block_on K7.out HBx.out) o
  have c8 := fun o => block_cell (block_on K8.out HBx.out) o
  have c9 := fun o => block_cell K9.out o
  have e1 := @eql24
  have e2 := @eqV_self
  go_wp2
  go_ret
  exact ⟨rfl, below_on HB.out HBx.out⟩

theorem assoc64 (x y z : Int) : wrap64 (x + wrap64 (y + z)) = wrap64 (wrap64 (x + y) + z) := by go_arith
theorem valueSums_any {a0 a1 a2 a3 a4 a5 a6 a7 b0 b1 b2 b3 b4 b5 b6 b7 d0 d1 d2 d3 d4 d5 d6 d7 : Int} {w : World} (ht : Tab w) :
    Calls Tryd.prog 7 #[H8 a0 a1 a2 a3 a4 a5 a6 a7, H8 b0 b1 b2 b3 b4 b5 b6 b7, H8 d0 d1 d2 d3 d4 d5 d6 d7] w fun e w' => e = .returned (.bool true) ∧ Below w.heap.size w w' :=
  valueSums_walk (hp := ⟨rfl, rfl, rfl, rfl, rfl, rfl, rfl, rfl⟩) (hq := ⟨rfl, rfl, rfl, rfl, rfl, rfl, rfl, rfl⟩) (hy := ⟨rfl, rfl, rfl, rfl, rfl, rfl, rfl, rfl⟩)
    (hq' := ⟨assoc64 _ _ _, assoc64 _ _ _, assoc64 _ _ _, assoc64 _ _ _, assoc64 _ _ _, assoc64 _ _ _, assoc64 _ _ _, assoc64 _ _ _⟩) ht
end Go.Proofs.YtjplnelffiegmaaDoor
