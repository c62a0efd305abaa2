/-
  What the reference's Add returns, for every two values: what the program's does.
-/
import Derived.Test.YtjplnelffiegmaaDoorRef
namespace Go.Proofs.YtjplnelffiegmaaDoor
open Go.RowKit Go.Joins Go.Sort
theorem rvalid_is {k n : Int} {s : ByteArray} {a0 a1 a2 a3 a4 a5 a6 a7 : Int} {w : World} (r : Bool) (h : validB k n s a0 a1 a2 a3 a4 a5 a6 a7 = r) :
    Calls Tryd.prog 11 #[V k n s a0 a1 a2 a3 a4 a5 a6 a7] w fun e w' => e = .returned (.bool r) ∧ Below w.heap.size w w' := by
  rw [← h]; exact rvalid_any
theorem valid_of_hist (a0 a1 a2 a3 a4 a5 a6 a7 : Int) : validB 4 0 ⟨#[]⟩ a0 a1 a2 a3 a4 a5 a6 a7 = true := by simp [validB, noText]
def mix (x y : Nat → Int) (i j : Nat) : Int := if i < j then wrap64 (x i + y i) else x i
theorem block_frozen {w : World} {b : Nat} {xs : Array Value} {t : TypeId} (h : w.heap[b]? = some (.cells xs t (0, 0))) (o : Nat) : w.frozen? ⟨b, o, none⟩ = false := by
  simp [World.frozen?, h]
theorem block_set {w : World} {b : Nat} {xs : Array Value} {t : TypeId} {fz : Nat × Nat} (h : w.heap[b]? = some (.cells xs t fz)) (o : Nat) (v : Value) : (w.setCell ⟨b, o, none⟩ v).heap[b]? = some (.cells (xs.setIfInBounds o v) t fz) := by
  simp [World.setCell, Array.getElem?_modify, h]
theorem mix_cell {W : World} {b : Nat} {k n : Int} {s : ByteArray} {x y : Nat → Int} {j : Nat} (h : W.heap[b]? = some (.cells (cellsOf k n s (mix x y 0 j) (mix x y 1 j) (mix x y 2 j) (mix x y 3 j) (mix x y 4 j) (mix x y 5 j) (mix x y 6 j) (mix x y 7 j)) 24 (0, 0))) (hj : j < 8) : W.cell? ⟨b, 3 + j, none⟩ = some (.int .i64 (x j)) := by
  rw [block_cell h]
  rcases lt8 hj with rfl | rfl | rfl | rfl | rfl | rfl | rfl | rfl <;> simp [mix]
theorem mix_step {k n : Int} {s : ByteArray} {x y : Nat → Int} {j : Nat} (hj : j < 8) : (cellsOf k n s (mix x y 0 j) (mix x y 1 j) (mix x y 2 j) (mix x y 3 j) (mix x y 4 j) (mix x y 5 j) (mix x y 6 j) (mix x y 7 j)).setIfInBounds (3 + j) (.int .i64 (wrap64 (x j + y j))) = cellsOf k n s (mix x y 0 (j + 1)) (mix x y 1 (j + 1)) (mix x y 2 (j + 1)) (mix x y 3 (j + 1)) (mix x y 4 (j + 1)) (mix x y 5 (j + 1)) (mix x y 6 (j + 1)) (mix x y 7 (j + 1)) := by
  rcases lt8 hj with rfl | rfl | rfl | rfl | rfl | rfl | rfl | rfl <;> simp [mix]

set_option maxHeartbeats 1000000 in
set_option maxRecDepth 100000 in
theorem radd_ok {k n : Int} {s : ByteArray} {a0 a1 a2 a3 a4 a5 a6 a7 : Int} {n' : Int} {s' : ByteArray} {b0 b1 b2 b3 b4 b5 b6 b7 : Int} {w : World} (hv : validB k n s a0 a1 a2 a3 a4 a5 a6 a7 = true) (hv' : validB k n' s' b0 b1 b2 b3 b4 b5 b6 b7 = true) (h14 : (k != 1) = false ∨ ((k != 1) = true ∧ (k != 4) = false)) :
    Calls Tryd.prog 19 #[V k n s a0 a1 a2 a3 a4 a5 a6 a7, V k n' s' b0 b1 b2 b3 b4 b5 b6 b7] w fun e w' => e = .returned (.tuple #[V k (wrap64 (n + n')) s (wrap64 (a0 + b0)) (wrap64 (a1 + b1)) (wrap64 (a2 + b2)) (wrap64 (a3 + b3)) (wrap64 (a4 + b4)) (wrap64 (a5 + b5)) (wrap64 (a6 + b6)) (wrap64 (a7 + b7)), .int .i64 0]) ∧ Below w.heap.size w w' := by
  have HV := hid hv
  have HV' := hid hv'
  clear hv hv'
  obtain ⟨x, hx⟩ : ∃ x, nth8 a0 a1 a2 a3 a4 a5 a6 a7 = x := ⟨_, rfl⟩
  obtain ⟨y, hy⟩ : ∃ y, nth8 b0 b1 b2 b3 b4 b5 b6 b7 = y := ⟨_, rfl⟩
  have HX := hid hx
  have HY := hid hy
  clear hx hy
  rcases h14 with h1 | ⟨h1, h4⟩
  all_goals
    go_enter Tryd.func19, Tryd.ntmps19
    go_wp2_with fail
    have HB := hid (show Below w.heap.size w (((w.alloc (.cells (cellsOf k n s a0 a1 a2 a3 a4 a5 a6 a7) 24 (0, 0))).alloc (.cells (cellsOf k n' s' b0 b1 b2 b3 b4 b5 b6 b7) 24 (0, 0))).alloc (.cells (cellsOf 0 0 ⟨#[]⟩ 0 0 0 0 0 0 0 0) 24 (0, 0))) from by go_grown)
    have K0 : Hid ((((w.alloc (.cells (cellsOf k n s a0 a1 a2 a3 a4 a5 a6 a7) 24 (0, 0))).alloc (.cells (cellsOf k n' s' b0 b1 b2 b3 b4 b5 b6 b7) 24 (0, 0))).alloc (.cells (cellsOf 0 0 ⟨#[]⟩ 0 0 0 0 0 0 0 0) 24 (0, 0))).heap[w.heap.size]? = some (.cells (cellsOf k n s a0 a1 a2 a3 a4 a5 a6 a7) 24 (0, 0))) := block_on (block_on (alloc_block w (.cells (cellsOf k n s a0 a1 a2 a3 a4 a5 a6 a7) 24 (0, 0))) ((Below.refl _ _).alloc (Nat.le_refl _) (.cells (cellsOf k n' s' b0 b1 b2 b3 b4 b5 b6 b7) 24 (0, 0)))) ((Below.refl _ _).alloc (Nat.le_refl _) (.cells (cellsOf 0 0 ⟨#[]⟩ 0 0 0 0 0 0 0 0) 24 (0, 0)))
    have K1 : Hid ((((w.alloc (.cells (cellsOf k n s a0 a1 a2 a3 a4 a5 a6 a7) 24 (0, 0))).alloc (.cells (cellsOf k n' s' b0 b1 b2 b3 b4 b5 b6 b7) 24 (0, 0))).alloc (.cells (cellsOf 0 0 ⟨#[]⟩ 0 0 0 0 0 0 0 0) 24 (0, 0))).heap[w.heap.size + 1]? = some (.cells (cellsOf k n' s' b0 b1 b2 b3 b4 b5 b6 b7) 24 (0, 0))) := by have h := block_on (alloc_block (w.alloc (.cells (cellsOf k n s a0 a1 a2 a3 a4 a5 a6 a7) 24 (0, 0))) (.cells (cellsOf k n' s' b0 b1 b2 b3 b4 b5 b6 b7) 24 (0, 0))) ((Below.refl _ _).alloc (Nat.le_refl _) (.cells (cellsOf 0 0 ⟨#[]⟩ 0 0 0 0 0 0 0 0) 24 (0, 0))); simp only [World.size_alloc] at h; exact h
    have K2 : Hid ((((w.alloc (.cells (cellsOf k n s a0 a1 a2 a3 a4 a5 a6 a7) 24 (0, 0))).alloc (.cells (cellsOf k n' s' b0 b1 b2 b3 b4 b5 b6 b7) 24 (0, 0))).alloc (.cells (cellsOf 0 0 ⟨#[]⟩ 0 0 0 0 0 0 0 0) 24 (0, 0))).heap[w.heap.size + 1 + 1]? = some (.cells (cellsOf 0 0 ⟨#[]⟩ 0 0 0 0 0 0 0 0) 24 (0, 0))) := by have h := alloc_block ((w.alloc (.cells (cellsOf k n s a0 a1 a2 a3 a4 a5 a6 a7) 24 (0, 0))).alloc (.cells (cellsOf k n' s' b0 b1 b2 b3 b4 b5 b6 b7) 24 (0, 0))) (.cells (cellsOf 0 0 ⟨#[]⟩ 0 0 0 0 0 0 0 0) 24 (0, 0)); simp only [World.size_alloc] at h; exact h
    generalize (((w.alloc (.cells (cellsOf k n s a0 a1 a2 a3 a4 a5 a6 a7) 24 (0, 0))).alloc (.cells (cellsOf k n' s' b0 b1 b2 b3 b4 b5 b6 b7) 24 (0, 0))).alloc (.cells (cellsOf 0 0 ⟨#[]⟩ 0 0 0 0 0 0 0 0) 24 (0, 0))) = W0 at *
    have c0 := fun o => block_cell K0.out o
    have l0 := lt_of_block K0.out
    have c1 := fun o => block_cell K1.out o
    have l1 := lt_of_block K1.out
    have c2 := fun o => block_cell K2.out o
    have l2 := lt_of_block K2.out
    refine (rvalid_is true HV.out).mono ?_
    rintro e w1 ⟨rfl, hb⟩
    clear c0 l0 c1 l1 c2 l2
    replace K0 := hid (block_on K0.out hb)
    replace K1 := hid (block_on K1.out hb)
    replace K2 := hid (block_on K2.out hb)
    replace HB := hid (below_on HB.out hb)
    clear hb
    have c0 := fun o => block_cell K0.out o
    have l0 := lt_of_block K0.out
    have c1 := fun o => block_cell K1.out o
    have l1 := lt_of_block K1.out
    have c2 := fun o => block_cell K2.out o
    have l2 := lt_of_block K2.out
    go_wp2_with fail
    refine (rvalid_is true HV'.out).mono ?_
    rintro e w2 ⟨rfl, hb⟩
    clear c0 l0 c1 l1 c2 l2
    replace K0 := hid (block_on K0.out hb)
    replace K1 := hid (block_on K1.out hb)
    replace K2 := hid (block_on K2.out hb)
    replace HB := hid (below_on HB.out hb)
    clear hb
    have c0 := fun o => block_cell K0.out o
    have l0 := lt_of_block K0.out
    have c1 := fun o => block_cell K1.out o
    have l1 := lt_of_block K1.out
    have c2 := fun o => block_cell K2.out o
    have l2 := lt_of_block K2.out
    go_wp2_with fail
    clear c0 l0 c1 l1 c2 l2
    have HBs := hid (lt_of_block K2.out)
    have K3 := hid (alloc_block w2 (.cells (cellsOf k (wrap64 (n + n')) s a0 a1 a2 a3 a4 a5 a6 a7) 24 (0, 0)))
    replace K0 := hid (block_on K0.out ((Below.refl _ _).alloc (Nat.le_refl _) (.cells (cellsOf k (wrap64 (n + n')) s a0 a1 a2 a3 a4 a5 a6 a7) 24 (0, 0))))
    replace K1 := hid (block_on K1.out ((Below.refl _ _).alloc (Nat.le_refl _) (.cells (cellsOf k (wrap64 (n + n')) s a0 a1 a2 a3 a4 a5 a6 a7) 24 (0, 0))))
    replace K2 := hid (block_on K2.out ((Below.refl _ _).alloc (Nat.le_refl _) (.cells (cellsOf k (wrap64 (n + n')) s a0 a1 a2 a3 a4 a5 a6 a7) 24 (0, 0))))
    replace HB := hid (below_on HB.out ((Below.refl _ _).alloc (Nat.le_refl _) (.cells (cellsOf k (wrap64 (n + n')) s a0 a1 a2 a3 a4 a5 a6 a7) 24 (0, 0))))
    generalize (w2.alloc (.cells (cellsOf k (wrap64 (n + n')) s a0 a1 a2 a3 a4 a5 a6 a7) 24 (0, 0))) = W3 at *
    generalize w2.heap.size = bk3 at *
    have c0 := fun o => block_cell K0.out o
    have l0 := lt_of_block K0.out
    have c1 := fun o => block_cell K1.out o
    have l1 := lt_of_block K1.out
    have c2 := fun o => block_cell K2.out o
    have l2 := lt_of_block K2.out
    have c3 := fun o => block_cell K3.out o
    have l3 := lt_of_block K3.out
    clear c0 l0 c1 l1 c2 l2 c3 l3
    replace K3 : Hid (W3.heap[bk3]? = some (.cells (cellsOf k (wrap64 (n + n')) s (mix x y 0 0) (mix x y 1 0) (mix x y 2 0) (mix x y 3 0) (mix x y 4 0) (mix x y 5 0) (mix x y 6 0) (mix x y 7 0)) 24 (0, 0))) := by rw [← HX.out, ← HY.out]; exact K3.out
    have hl3 : w.heap.size + 1 + 1 < bk3 := HBs.out
    go_loopw [7] (fun i wr => ∃ j : Nat, j ≤ 8 ∧ i = .int .i64 j ∧ Hid (wr.heap[w.heap.size]? = some (.cells (cellsOf k n s a0 a1 a2 a3 a4 a5 a6 a7) 24 (0, 0))) ∧ Hid (wr.heap[w.heap.size + 1]? = some (.cells (cellsOf k n' s' b0 b1 b2 b3 b4 b5 b6 b7) 24 (0, 0))) ∧ Hid (wr.heap[w.heap.size + 1 + 1]? = some (.cells (cellsOf 0 0 ⟨#[]⟩ 0 0 0 0 0 0 0 0) 24 (0, 0))) ∧ Hid (wr.heap[bk3]? = some (.cells (cellsOf k (wrap64 (n + n')) s (mix x y 0 j) (mix x y 1 j) (mix x y 2 j) (mix x y 3 j) (mix x y 4 j) (mix x y 5 j) (mix x y 6 j) (mix x y 7 j)) 24 (0, 0))) ∧ Hid (Below w.heap.size w wr)) (fun i _ => 8 - (intOf i).toNat)
    case atStart => exact ⟨0, by omega, rfl, K0.out, K1.out, K2.out, K3.out, HB.out⟩
    case round =>
      obtain ⟨j, hj, rfl, HA, HB1, HR, HO, HBel⟩ := hrel
      by_cases hlt : j < 8
      · have c0 : wr.cell? ⟨w.heap.size, 3 + j, none⟩ = some (.int .i64 (x j)) := by rw [← HX.out]; exact nth8_cell HA.out j hlt
        have c1 : wr.cell? ⟨w.heap.size + 1, 3 + j, none⟩ = some (.int .i64 (y j)) := by rw [← HY.out]; exact nth8_cell HB1.out j hlt
        have c3 := mix_cell HO.out hlt
        have f3 := block_frozen HO.out (3 + j)
        go_wp2_with fail
        go_region
        go_wp2
        go_roundw
        case rel =>
          refine ⟨j + 1, by omega, by go_num, (Below.heap_setCell _ _ _ _ (by show _ ≠ bk3; omega)).trans HA.out, (Below.heap_setCell _ _ _ _ (by show _ ≠ bk3; omega)).trans HB1.out, (Below.heap_setCell _ _ _ _ (by show _ ≠ bk3; omega)).trans HR.out, ?_, (HBel.out.setCell (by show _ ≤ bk3; omega) _).drew⟩
          have h := block_set HO.out (3 + j) (.int .i64 (wrap64 (x j + y j)))
          rw [mix_step hlt] at h
          exact h
        case measure => simp [intOf]; omega
      · have h8 : j = 8 := by omega
        subst h8
        have c2 := fun o => block_cell HR.out o
        have f2 := block_frozen HR.out
        have c3 : ∀ o, wr.cell? ⟨bk3, o, none⟩ = (cellsOf k (wrap64 (n + n')) s (wrap64 (a0 + b0)) (wrap64 (a1 + b1)) (wrap64 (a2 + b2)) (wrap64 (a3 + b3)) (wrap64 (a4 + b4)) (wrap64 (a5 + b5)) (wrap64 (a6 + b6)) (wrap64 (a7 + b7)))[o]? := by
          have h := fun o => block_cell HO.out o
          rw [← HX.out, ← HY.out] at h
          exact h
        have l2 := lt_of_block HR.out
        go_wp2
        refine bodyPost_ret (v := .tuple #[V k (wrap64 (n + n')) s (wrap64 (a0 + b0)) (wrap64 (a1 + b1)) (wrap64 (a2 + b2)) (wrap64 (a3 + b3)) (wrap64 (a4 + b4)) (wrap64 (a5 + b5)) (wrap64 (a6 + b6)) (wrap64 (a7 + b7)), .int .i64 0]) (by simp [results, Tryd.results19, go_sem, c2]) rfl ⟨rfl, ?_⟩
        have hbw := HBel.out
        clear c2 f2 c3
        go_grown
set_option maxHeartbeats 1000000 in
set_option maxRecDepth 100000 in
theorem radd_bad1 {k n : Int} {s : ByteArray} {a0 a1 a2 a3 a4 a5 a6 a7 : Int} {k' n' : Int} {s' : ByteArray} {b0 b1 b2 b3 b4 b5 b6 b7 : Int} {w : World} (hv : validB k n s a0 a1 a2 a3 a4 a5 a6 a7 = false) :
    Calls Tryd.prog 19 #[V k n s a0 a1 a2 a3 a4 a5 a6 a7, V k' n' s' b0 b1 b2 b3 b4 b5 b6 b7] w fun e w' => e = .returned (.tuple #[V 0 0 ⟨#[]⟩ 0 0 0 0 0 0 0 0, .int .i64 10]) ∧ Below w.heap.size w w' := by
  have HV := hid hv
  clear hv
  go_enter Tryd.func19, Tryd.ntmps19
  go_wp2_with fail
  have HB := hid (show Below w.heap.size w (((w.alloc (.cells (cellsOf k n s a0 a1 a2 a3 a4 a5 a6 a7) 24 (0, 0))).alloc (.cells (cellsOf k' n' s' b0 b1 b2 b3 b4 b5 b6 b7) 24 (0, 0))).alloc (.cells (cellsOf 0 0 ⟨#[]⟩ 0 0 0 0 0 0 0 0) 24 (0, 0))) from by go_grown)
  have K0 : Hid ((((w.alloc (.cells (cellsOf k n s a0 a1 a2 a3 a4 a5 a6 a7) 24 (0, 0))).alloc (.cells (cellsOf k' n' s' b0 b1 b2 b3 b4 b5 b6 b7) 24 (0, 0))).alloc (.cells (cellsOf 0 0 ⟨#[]⟩ 0 0 0 0 0 0 0 0) 24 (0, 0))).heap[w.heap.size]? = some (.cells (cellsOf k n s a0 a1 a2 a3 a4 a5 a6 a7) 24 (0, 0))) := block_on (block_on (alloc_block w (.cells (cellsOf k n s a0 a1 a2 a3 a4 a5 a6 a7) 24 (0, 0))) ((Below.refl _ _).alloc (Nat.le_refl _) (.cells (cellsOf k' n' s' b0 b1 b2 b3 b4 b5 b6 b7) 24 (0, 0)))) ((Below.refl _ _).alloc (Nat.le_refl _) (.cells (cellsOf 0 0 ⟨#[]⟩ 0 0 0 0 0 0 0 0) 24 (0, 0)))
  have K1 : Hid ((((w.alloc (.cells (cellsOf k n s a0 a1 a2 a3 a4 a5 a6 a7) 24 (0, 0))).alloc (.cells (cellsOf k' n' s' b0 b1 b2 b3 b4 b5 b6 b7) 24 (0, 0))).alloc (.cells (cellsOf 0 0 ⟨#[]⟩ 0 0 0 0 0 0 0 0) 24 (0, 0))).heap[w.heap.size + 1]? = some (.cells (cellsOf k' n' s' b0 b1 b2 b3 b4 b5 b6 b7) 24 (0, 0))) := by have h := block_on (alloc_block (w.alloc (.cells (cellsOf k n s a0 a1 a2 a3 a4 a5 a6 a7) 24 (0, 0))) (.cells (cellsOf k' n' s' b0 b1 b2 b3 b4 b5 b6 b7) 24 (0, 0))) ((Below.refl _ _).alloc (Nat.le_refl _) (.cells (cellsOf 0 0 ⟨#[]⟩ 0 0 0 0 0 0 0 0) 24 (0, 0))); simp only [World.size_alloc] at h; exact h
  have K2 : Hid ((((w.alloc (.cells (cellsOf k n s a0 a1 a2 a3 a4 a5 a6 a7) 24 (0, 0))).alloc (.cells (cellsOf k' n' s' b0 b1 b2 b3 b4 b5 b6 b7) 24 (0, 0))).alloc (.cells (cellsOf 0 0 ⟨#[]⟩ 0 0 0 0 0 0 0 0) 24 (0, 0))).heap[w.heap.size + 1 + 1]? = some (.cells (cellsOf 0 0 ⟨#[]⟩ 0 0 0 0 0 0 0 0) 24 (0, 0))) := by have h := alloc_block ((w.alloc (.cells (cellsOf k n s a0 a1 a2 a3 a4 a5 a6 a7) 24 (0, 0))).alloc (.cells (cellsOf k' n' s' b0 b1 b2 b3 b4 b5 b6 b7) 24 (0, 0))) (.cells (cellsOf 0 0 ⟨#[]⟩ 0 0 0 0 0 0 0 0) 24 (0, 0)); simp only [World.size_alloc] at h; exact h
  generalize (((w.alloc (.cells (cellsOf k n s a0 a1 a2 a3 a4 a5 a6 a7) 24 (0, 0))).alloc (.cells (cellsOf k' n' s' b0 b1 b2 b3 b4 b5 b6 b7) 24 (0, 0))).alloc (.cells (cellsOf 0 0 ⟨#[]⟩ 0 0 0 0 0 0 0 0) 24 (0, 0))) = W0 at *
  have c0 := fun o => block_cell K0.out o
  have l0 := lt_of_block K0.out
  have c1 := fun o => block_cell K1.out o
  have l1 := lt_of_block K1.out
  have c2 := fun o => block_cell K2.out o
  have l2 := lt_of_block K2.out
  refine (rvalid_is false HV.out).mono ?_
  rintro e w1 ⟨rfl, hb⟩
  clear c0 l0 c1 l1 c2 l2
  replace K0 := hid (block_on K0.out hb)
  replace K1 := hid (block_on K1.out hb)
  replace K2 := hid (block_on K2.out hb)
  replace HB := hid (below_on HB.out hb)
  clear hb
  have c0 := fun o => block_cell K0.out o
  have l0 := lt_of_block K0.out
  have c1 := fun o => block_cell K1.out o
  have l1 := lt_of_block K1.out
  have c2 := fun o => block_cell K2.out o
  have l2 := lt_of_block K2.out
  have f2 := block_frozen K2.out
  go_wp2
  refine bodyPost_ret (v := .tuple #[V 0 0 ⟨#[]⟩ 0 0 0 0 0 0 0 0, .int .i64 10]) (by simp [results, Tryd.results19, go_sem, c2]) rfl ⟨rfl, ?_⟩
  have hbw := HB.out
  clear c0 c1 c2 f2
  go_grown
set_option maxHeartbeats 1000000 in
set_option maxRecDepth 100000 in
theorem radd_bad2 {k n : Int} {s : ByteArray} {a0 a1 a2 a3 a4 a5 a6 a7 : Int} {k' n' : Int} {s' : ByteArray} {b0 b1 b2 b3 b4 b5 b6 b7 : Int} {w : World} (hv : validB k n s a0 a1 a2 a3 a4 a5 a6 a7 = true) (hv' : validB k' n' s' b0 b1 b2 b3 b4 b5 b6 b7 = false) :
    Calls Tryd.prog 19 #[V k n s a0 a1 a2 a3 a4 a5 a6 a7, V k' n' s' b0 b1 b2 b3 b4 b5 b6 b7] w fun e w' => e = .returned (.tuple #[V 0 0 ⟨#[]⟩ 0 0 0 0 0 0 0 0, .int .i64 10]) ∧ Below w.heap.size w w' := by
  have HV := hid hv
  have HV' := hid hv'
  clear hv hv'
  go_enter Tryd.func19, Tryd.ntmps19
  go_wp2_with fail
  have HB := hid (show Below w.heap.size w (((w.alloc (.cells (cellsOf k n s a0 a1 a2 a3 a4 a5 a6 a7) 24 (0, 0))).alloc (.cells (cellsOf k' n' s' b0 b1 b2 b3 b4 b5 b6 b7) 24 (0, 0))).alloc (.cells (cellsOf 0 0 ⟨#[]⟩ 0 0 0 0 0 0 0 0) 24 (0, 0))) from by go_grown)
  have K0 : Hid ((((w.alloc (.cells (cellsOf k n s a0 a1 a2 a3 a4 a5 a6 a7) 24 (0, 0))).alloc (.cells (cellsOf k' n' s' b0 b1 b2 b3 b4 b5 b6 b7) 24 (0, 0))).alloc (.cells (cellsOf 0 0 ⟨#[]⟩ 0 0 0 0 0 0 0 0) 24 (0, 0))).heap[w.heap.size]? = some (.cells (cellsOf k n s a0 a1 a2 a3 a4 a5 a6 a7) 24 (0, 0))) := block_on (block_on (alloc_block w (.cells (cellsOf k n s a0 a1 a2 a3 a4 a5 a6 a7) 24 (0, 0))) ((Below.refl _ _).alloc (Nat.le_refl _) (.cells (cellsOf k' n' s' b0 b1 b2 b3 b4 b5 b6 b7) 24 (0, 0)))) ((Below.refl _ _).alloc (Nat.le_refl _) (.cells (cellsOf 0 0 ⟨#[]⟩ 0 0 0 0 0 0 0 0) 24 (0, 0)))
  have K1 : Hid ((((w.alloc (.cells (cellsOf k n s a0 a1 a2 a3 a4 a5 a6 a7) 24 (0, 0))).alloc (.cells (cellsOf k' n' s' b0 b1 b2 b3 b4 b5 b6 b7) 24 (0, 0))).alloc (.cells (cellsOf 0 0 ⟨#[]⟩ 0 0 0 0 0 0 0 0) 24 (0, 0))).heap[w.heap.size + 1]? = some (.cells (cellsOf k' n' s' b0 b1 b2 b3 b4 b5 b6 b7) 24 (0, 0))) := by have h := block_on (alloc_block (w.alloc (.cells (cellsOf k n s a0 a1 a2 a3 a4 a5 a6 a7) 24 (0, 0))) (.cells (cellsOf k' n' s' b0 b1 b2 b3 b4 b5 b6 b7) 24 (0, 0))) ((Below.refl _ _).alloc (Nat.le_refl _) (.cells (cellsOf 0 0 ⟨#[]⟩ 0 0 0 0 0 0 0 0) 24 (0, 0))); simp only [World.size_alloc] at h; exact h
  have K2 : Hid ((((w.alloc (.cells (cellsOf k n s a0 a1 a2 a3 a4 a5 a6 a7) 24 (0, 0))).alloc (.cells (cellsOf k' n' s' b0 b1 b2 b3 b4 b5 b6 b7) 24 (0, 0))).alloc (.cells (cellsOf 0 0 ⟨#[]⟩ 0 0 0 0 0 0 0 0) 24 (0, 0))).heap[w.heap.size + 1 + 1]? = some (.cells (cellsOf 0 0 ⟨#[]⟩ 0 0 0 0 0 0 0 0) 24 (0, 0))) := by have h := alloc_block ((w.alloc (.cells (cellsOf k n s a0 a1 a2 a3 a4 a5 a6 a7) 24 (0, 0))).alloc (.cells (cellsOf k' n' s' b0 b1 b2 b3 b4 b5 b6 b7) 24 (0, 0))) (.cells (cellsOf 0 0 ⟨#[]⟩ 0 0 0 0 0 0 0 0) 24 (0, 0)); simp only [World.size_alloc] at h; exact h
  generalize (((w.alloc (.cells (cellsOf k n s a0 a1 a2 a3 a4 a5 a6 a7) 24 (0, 0))).alloc (.cells (cellsOf k' n' s' b0 b1 b2 b3 b4 b5 b6 b7) 24 (0, 0))).alloc (.cells (cellsOf 0 0 ⟨#[]⟩ 0 0 0 0 0 0 0 0) 24 (0, 0))) = W0 at *
  have c0 := fun o => block_cell K0.out o
  have l0 := lt_of_block K0.out
  have c1 := fun o => block_cell K1.out o
  have l1 := lt_of_block K1.out
  have c2 := fun o => block_cell K2.out o
  have l2 := lt_of_block K2.out
  refine (rvalid_is true HV.out).mono ?_
  rintro e w1 ⟨rfl, hb⟩
  clear c0 l0 c1 l1 c2 l2
  replace K0 := hid (block_on K0.out hb)
  replace K1 := hid (block_on K1.out hb)
  replace K2 := hid (block_on K2.out hb)
  replace HB := hid (below_on HB.out hb)
  clear hb
  have c0 := fun o => block_cell K0.out o
  have l0 := lt_of_block K0.out
  have c1 := fun o => block_cell K1.out o
  have l1 := lt_of_block K1.out
  have c2 := fun o => block_cell K2.out o
  have l2 := lt_of_block K2.out
  go_wp2_with fail
  refine (rvalid_is false HV'.out).mono ?_
  rintro e w2 ⟨rfl, hb⟩
  clear c0 l0 c1 l1 c2 l2
  replace K0 := hid (block_on K0.out hb)
  replace K1 := hid (block_on K1.out hb)
  replace K2 := hid (block_on K2.out hb)
  replace HB := hid (below_on HB.out hb)
  clear hb
  have c0 := fun o => block_cell K0.out o
  have l0 := lt_of_block K0.out
  have c1 := fun o => block_cell K1.out o
  have l1 := lt_of_block K1.out
  have c2 := fun o => block_cell K2.out o
  have l2 := lt_of_block K2.out
  have f2 := block_frozen K2.out
  go_wp2
  refine bodyPost_ret (v := .tuple #[V 0 0 ⟨#[]⟩ 0 0 0 0 0 0 0 0, .int .i64 10]) (by simp [results, Tryd.results19, go_sem, c2]) rfl ⟨rfl, ?_⟩
  have hbw := HB.out
  clear c0 c1 c2 f2
  go_grown
set_option maxHeartbeats 1000000 in
set_option maxRecDepth 100000 in
theorem radd_kinds {k n : Int} {s : ByteArray} {a0 a1 a2 a3 a4 a5 a6 a7 : Int} {k' n' : Int} {s' : ByteArray} {b0 b1 b2 b3 b4 b5 b6 b7 : Int} {w : World} (hv : validB k n s a0 a1 a2 a3 a4 a5 a6 a7 = true) (hv' : validB k' n' s' b0 b1 b2 b3 b4 b5 b6 b7 = true) (hk : (k != k') = true) :
    Calls Tryd.prog 19 #[V k n s a0 a1 a2 a3 a4 a5 a6 a7, V k' n' s' b0 b1 b2 b3 b4 b5 b6 b7] w fun e w' => e = .returned (.tuple #[V 0 0 ⟨#[]⟩ 0 0 0 0 0 0 0 0, .int .i64 10]) ∧ Below w.heap.size w w' := by
  have HV := hid hv
  have HV' := hid hv'
  clear hv hv'
  go_enter Tryd.func19, Tryd.ntmps19
  go_wp2_with fail
  have HB := hid (show Below w.heap.size w (((w.alloc (.cells (cellsOf k n s a0 a1 a2 a3 a4 a5 a6 a7) 24 (0, 0))).alloc (.cells (cellsOf k' n' s' b0 b1 b2 b3 b4 b5 b6 b7) 24 (0, 0))).alloc (.cells (cellsOf 0 0 ⟨#[]⟩ 0 0 0 0 0 0 0 0) 24 (0, 0))) from by go_grown)
  have K0 : Hid ((((w.alloc (.cells (cellsOf k n s a0 a1 a2 a3 a4 a5 a6 a7) 24 (0, 0))).alloc (.cells (cellsOf k' n' s' b0 b1 b2 b3 b4 b5 b6 b7) 24 (0, 0))).alloc (.cells (cellsOf 0 0 ⟨#[]⟩ 0 0 0 0 0 0 0 0) 24 (0, 0))).heap[w.heap.size]? = some (.cells (cellsOf k n s a0 a1 a2 a3 a4 a5 a6 a7) 24 (0, 0))) := block_on (block_on (alloc_block w (.cells (cellsOf k n s a0 a1 a2 a3 a4 a5 a6 a7) 24 (0, 0))) ((Below.refl _ _).alloc (Nat.le_refl _) (.cells (cellsOf k' n' s' b0 b1 b2 b3 b4 b5 b6 b7) 24 (0, 0)))) ((Below.refl _ _).alloc (Nat.le_refl _) (.cells (cellsOf 0 0 ⟨#[]⟩ 0 0 0 0 0 0 0 0) 24 (0, 0)))
  have K1 : Hid ((((w.alloc (.cells (cellsOf k n s a0 a1 a2 a3 a4 a5 a6 a7) 24 (0, 0))).alloc (.cells (cellsOf k' n' s' b0 b1 b2 b3 b4 b5 b6 b7) 24 (0, 0))).alloc (.cells (cellsOf 0 0 ⟨#[]⟩ 0 0 0 0 0 0 0 0) 24 (0, 0))).heap[w.heap.size + 1]? = some (.cells (cellsOf k' n' s' b0 b1 b2 b3 b4 b5 b6 b7) 24 (0, 0))) := by have h := block_on (alloc_block (w.alloc (.cells (cellsOf k n s a0 a1 a2 a3 a4 a5 a6 a7) 24 (0, 0))) (.cells (cellsOf k' n' s' b0 b1 b2 b3 b4 b5 b6 b7) 24 (0, 0))) ((Below.refl _ _).alloc (Nat.le_refl _) (.cells (cellsOf 0 0 ⟨#[]⟩ 0 0 0 0 0 0 0 0) 24 (0, 0))); simp only [World.size_alloc] at h; exact h
  have K2 : Hid ((((w.alloc (.cells (cellsOf k n s a0 a1 a2 a3 a4 a5 a6 a7) 24 (0, 0))).alloc (.cells (cellsOf k' n' s' b0 b1 b2 b3 b4 b5 b6 b7) 24 (0, 0))).alloc (.cells (cellsOf 0 0 ⟨#[]⟩ 0 0 0 0 0 0 0 0) 24 (0, 0))).heap[w.heap.size + 1 + 1]? = some (.cells (cellsOf 0 0 ⟨#[]⟩ 0 0 0 0 0 0 0 0) 24 (0, 0))) := by have h := alloc_block ((w.alloc (.cells (cellsOf k n s a0 a1 a2 a3 a4 a5 a6 a7) 24 (0, 0))).alloc (.cells (cellsOf k' n' s' b0 b1 b2 b3 b4 b5 b6 b7) 24 (0, 0))) (.cells (cellsOf 0 0 ⟨#[]⟩ 0 0 0 0 0 0 0 0) 24 (0, 0)); simp only [World.size_alloc] at h; exact h
  generalize (((w.alloc (.cells (cellsOf k n s a0 a1 a2 a3 a4 a5 a6 a7) 24 (0, 0))).alloc (.cells (cellsOf k' n' s' b0 b1 b2 b3 b4 b5 b6 b7) 24 (0, 0))).alloc (.cells (cellsOf 0 0 ⟨#[]⟩ 0 0 0 0 0 0 0 0) 24 (0, 0))) = W0 at *
  have c0 := fun o => block_cell K0.out o
  have l0 := lt_of_block K0.out
  have c1 := fun o => block_cell K1.out o
  have l1 := lt_of_block K1.out
  have c2 := fun o => block_cell K2.out o
  have l2 := lt_of_block K2.out
  refine (rvalid_is true HV.out).mono ?_
  rintro e w1 ⟨rfl, hb⟩
  clear c0 l0 c1 l1 c2 l2
  replace K0 := hid (block_on K0.out hb)
  replace K1 := hid (block_on K1.out hb)
  replace K2 := hid (block_on K2.out hb)
  replace HB := hid (below_on HB.out hb)
  clear hb
  have c0 := fun o => block_cell K0.out o
  have l0 := lt_of_block K0.out
  have c1 := fun o => block_cell K1.out o
  have l1 := lt_of_block K1.out
  have c2 := fun o => block_cell K2.out o
  have l2 := lt_of_block K2.out
  go_wp2_with fail
  refine (rvalid_is true HV'.out).mono ?_
  rintro e w2 ⟨rfl, hb⟩
  clear c0 l0 c1 l1 c2 l2
  replace K0 := hid (block_on K0.out hb)
  replace K1 := hid (block_on K1.out hb)
  replace K2 := hid (block_on K2.out hb)
  replace HB := hid (below_on HB.out hb)
  clear hb
  have c0 := fun o => block_cell K0.out o
  have l0 := lt_of_block K0.out
  have c1 := fun o => block_cell K1.out o
  have l1 := lt_of_block K1.out
  have c2 := fun o => block_cell K2.out o
  have l2 := lt_of_block K2.out
  have f2 := block_frozen K2.out
  go_wp2
  refine bodyPost_ret (v := .tuple #[V 0 0 ⟨#[]⟩ 0 0 0 0 0 0 0 0, .int .i64 10]) (by simp [results, Tryd.results19, go_sem, c2]) rfl ⟨rfl, ?_⟩
  have hbw := HB.out
  clear c0 c1 c2 f2
  go_grown
set_option maxHeartbeats 1000000 in
set_option maxRecDepth 100000 in
theorem radd_other {k n : Int} {s : ByteArray} {a0 a1 a2 a3 a4 a5 a6 a7 : Int} {n' : Int} {s' : ByteArray} {b0 b1 b2 b3 b4 b5 b6 b7 : Int} {w : World} (hv : validB k n s a0 a1 a2 a3 a4 a5 a6 a7 = true) (hv' : validB k n' s' b0 b1 b2 b3 b4 b5 b6 b7 = true) (h1 : (k != 1) = true) (h4 : (k != 4) = true) :
    Calls Tryd.prog 19 #[V k n s a0 a1 a2 a3 a4 a5 a6 a7, V k n' s' b0 b1 b2 b3 b4 b5 b6 b7] w fun e w' => e = .returned (.tuple #[V 0 0 ⟨#[]⟩ 0 0 0 0 0 0 0 0, .int .i64 10]) ∧ Below w.heap.size w w' := by
  have HV := hid hv
  have HV' := hid hv'
  clear hv hv'
  go_enter Tryd.func19, Tryd.ntmps19
  go_wp2_with fail
  have HB := hid (show Below w.heap.size w (((w.alloc (.cells (cellsOf k n s a0 a1 a2 a3 a4 a5 a6 a7) 24 (0, 0))).alloc (.cells (cellsOf k n' s' b0 b1 b2 b3 b4 b5 b6 b7) 24 (0, 0))).alloc (.cells (cellsOf 0 0 ⟨#[]⟩ 0 0 0 0 0 0 0 0) 24 (0, 0))) from by go_grown)
  have K0 : Hid ((((w.alloc (.cells (cellsOf k n s a0 a1 a2 a3 a4 a5 a6 a7) 24 (0, 0))).alloc (.cells (cellsOf k n' s' b0 b1 b2 b3 b4 b5 b6 b7) 24 (0, 0))).alloc (.cells (cellsOf 0 0 ⟨#[]⟩ 0 0 0 0 0 0 0 0) 24 (0, 0))).heap[w.heap.size]? = some (.cells (cellsOf k n s a0 a1 a2 a3 a4 a5 a6 a7) 24 (0, 0))) := block_on (block_on (alloc_block w (.cells (cellsOf k n s a0 a1 a2 a3 a4 a5 a6 a7) 24 (0, 0))) ((Below.refl _ _).alloc (Nat.le_refl _) (.cells (cellsOf k n' s' b0 b1 b2 b3 b4 b5 b6 b7) 24 (0, 0)))) ((Below.refl _ _).alloc (Nat.le_refl _) (.cells (cellsOf 0 0 ⟨#[]⟩ 0 0 0 0 0 0 0 0) 24 (0, 0)))
  have K1 : Hid ((((w.alloc (.cells (cellsOf k n s a0 a1 a2 a3 a4 a5 a6 a7) 24 (0, 0))).alloc (.cells (cellsOf k n' s' b0 b1 b2 b3 b4 b5 b6 b7) 24 (0, 0))).alloc (.cells (cellsOf 0 0 ⟨#[]⟩ 0 0 0 0 0 0 0 0) 24 (0, 0))).heap[w.heap.size + 1]? = some (.cells (cellsOf k n' s' b0 b1 b2 b3 b4 b5 b6 b7) 24 (0, 0))) := by have h := block_on (alloc_block (w.alloc (.cells (cellsOf k n s a0 a1 a2 a3 a4 a5 a6 a7) 24 (0, 0))) (.cells (cellsOf k n' s' b0 b1 b2 b3 b4 b5 b6 b7) 24 (0, 0))) ((Below.refl _ _).alloc (Nat.le_refl _) (.cells (cellsOf 0 0 ⟨#[]⟩ 0 0 0 0 0 0 0 0) 24 (0, 0))); simp only [World.size_alloc] at h; exact h
  have K2 : Hid ((((w.alloc (.cells (cellsOf k n s a0 a1 a2 a3 a4 a5 a6 a7) 24 (0, 0))).alloc (.cells (cellsOf k n' s' b0 b1 b2 b3 b4 b5 b6 b7) 24 (0, 0))).alloc (.cells (cellsOf 0 0 ⟨#[]⟩ 0 0 0 0 0 0 0 0) 24 (0, 0))).heap[w.heap.size + 1 + 1]? = some (.cells (cellsOf 0 0 ⟨#[]⟩ 0 0 0 0 0 0 0 0) 24 (0, 0))) := by have h := alloc_block ((w.alloc (.cells (cellsOf k n s a0 a1 a2 a3 a4 a5 a6 a7) 24 (0, 0))).alloc (.cells (cellsOf k n' s' b0 b1 b2 b3 b4 b5 b6 b7) 24 (0, 0))) (.cells (cellsOf 0 0 ⟨#[]⟩ 0 0 0 0 0 0 0 0) 24 (0, 0)); simp only [World.size_alloc] at h; exact h
  generalize (((w.alloc (.cells (cellsOf k n s a0 a1 a2 a3 a4 a5 a6 a7) 24 (0, 0))).alloc (.cells (cellsOf k n' s' b0 b1 b2 b3 b4 b5 b6 b7) 24 (0, 0))).alloc (.cells (cellsOf 0 0 ⟨#[]⟩ 0 0 0 0 0 0 0 0) 24 (0, 0))) = W0 at *
  have c0 := fun o => block_cell K0.out o
  have l0 := lt_of_block K0.out
  have c1 := fun o => block_cell K1.out o
  have l1 := lt_of_block K1.out
  have c2 := fun o => block_cell K2.out o
  have l2 := lt_of_block K2.out
  refine (rvalid_is true HV.out).mono ?_
  rintro e w1 ⟨rfl, hb⟩
  clear c0 l0 c1 l1 c2 l2
  replace K0 := hid (block_on K0.out hb)
  replace K1 := hid (block_on K1.out hb)
  replace K2 := hid (block_on K2.out hb)
  replace HB := hid (below_on HB.out hb)
  clear hb
  have c0 := fun o => block_cell K0.out o
  have l0 := lt_of_block K0.out
  have c1 := fun o => block_cell K1.out o
  have l1 := lt_of_block K1.out
  have c2 := fun o => block_cell K2.out o
  have l2 := lt_of_block K2.out
  go_wp2_with fail
  refine (rvalid_is true HV'.out).mono ?_
  rintro e w2 ⟨rfl, hb⟩
  clear c0 l0 c1 l1 c2 l2
  replace K0 := hid (block_on K0.out hb)
  replace K1 := hid (block_on K1.out hb)
  replace K2 := hid (block_on K2.out hb)
  replace HB := hid (below_on HB.out hb)
  clear hb
  have c0 := fun o => block_cell K0.out o
  have l0 := lt_of_block K0.out
  have c1 := fun o => block_cell K1.out o
  have l1 := lt_of_block K1.out
  have c2 := fun o => block_cell K2.out o
  have l2 := lt_of_block K2.out
  have f2 := block_frozen K2.out
  go_wp2
  refine bodyPost_ret (v := .tuple #[V 0 0 ⟨#[]⟩ 0 0 0 0 0 0 0 0, .int .i64 10]) (by simp [results, Tryd.results19, go_sem, c2]) rfl ⟨rfl, ?_⟩
  have hbw := HB.out
  clear c0 c1 c2 f2
  go_grown
/- Whether two values can be added. -/
def addable (k n : Int) (s : ByteArray) (a0 a1 a2 a3 a4 a5 a6 a7 : Int) (k' n' : Int) (s' : ByteArray) (b0 b1 b2 b3 b4 b5 b6 b7 : Int) : Bool :=
  decide (k = k') && (validB k n s a0 a1 a2 a3 a4 a5 a6 a7 && (validB k' n' s' b0 b1 b2 b3 b4 b5 b6 b7 && decide (k = 1 ∨ k = 4)))
theorem add_bad {k n : Int} {s : ByteArray} {a0 a1 a2 a3 a4 a5 a6 a7 : Int} {k' n' : Int} {s' : ByteArray} {b0 b1 b2 b3 b4 b5 b6 b7 : Int} {w : World} (h : addable k n s a0 a1 a2 a3 a4 a5 a6 a7 k' n' s' b0 b1 b2 b3 b4 b5 b6 b7 = false) :
    Calls Tryd.prog 18 #[V k n s a0 a1 a2 a3 a4 a5 a6 a7, V k' n' s' b0 b1 b2 b3 b4 b5 b6 b7] w fun e w' => e = .returned (.tuple #[V 0 0 ⟨#[]⟩ 0 0 0 0 0 0 0 0, .int .i64 10]) ∧ Below w.heap.size w w' := by
  by_cases hk : k = k'
  · subst hk
    cases hv : validB k n s a0 a1 a2 a3 a4 a5 a6 a7
    · exact add_bad1 hv
    · cases hv' : validB k n' s' b0 b1 b2 b3 b4 b5 b6 b7
      · exact add_bad2 hv hv'
      · simp [addable, hv, hv'] at h
        exact add_other hv hv' (by simpa using h.1) (by simpa using h.2)
  · exact add_kinds (by simpa using hk)
theorem radd_bad {k n : Int} {s : ByteArray} {a0 a1 a2 a3 a4 a5 a6 a7 : Int} {k' n' : Int} {s' : ByteArray} {b0 b1 b2 b3 b4 b5 b6 b7 : Int} {w : World} (h : addable k n s a0 a1 a2 a3 a4 a5 a6 a7 k' n' s' b0 b1 b2 b3 b4 b5 b6 b7 = false) :
    Calls Tryd.prog 19 #[V k n s a0 a1 a2 a3 a4 a5 a6 a7, V k' n' s' b0 b1 b2 b3 b4 b5 b6 b7] w fun e w' => e = .returned (.tuple #[V 0 0 ⟨#[]⟩ 0 0 0 0 0 0 0 0, .int .i64 10]) ∧ Below w.heap.size w w' := by
  cases hv : validB k n s a0 a1 a2 a3 a4 a5 a6 a7
  · exact radd_bad1 hv
  · cases hv' : validB k' n' s' b0 b1 b2 b3 b4 b5 b6 b7
    · exact radd_bad2 hv hv'
    · by_cases hk : k = k'
      · subst hk
        simp [addable, hv, hv'] at h
        exact radd_other hv hv' (by simpa using h.1) (by simpa using h.2)
      · exact radd_kinds hv hv' (by simpa using hk)
theorem addable_comm {k n : Int} {s : ByteArray} {a0 a1 a2 a3 a4 a5 a6 a7 : Int} {k' n' : Int} {s' : ByteArray} {b0 b1 b2 b3 b4 b5 b6 b7 : Int}  (h : addable k n s a0 a1 a2 a3 a4 a5 a6 a7 k' n' s' b0 b1 b2 b3 b4 b5 b6 b7 = false) : addable k' n' s' b0 b1 b2 b3 b4 b5 b6 b7 k n s a0 a1 a2 a3 a4 a5 a6 a7 = false := by
  rw [← h]
  unfold addable
  by_cases hk : k = k'
  · subst hk
    cases validB k n s a0 a1 a2 a3 a4 a5 a6 a7 <;> cases validB k n' s' b0 b1 b2 b3 b4 b5 b6 b7 <;> simp
  · have : ¬ k' = k := fun e => hk e.symm
    simp [hk, this]
end Go.Proofs.YtjplnelffiegmaaDoor
