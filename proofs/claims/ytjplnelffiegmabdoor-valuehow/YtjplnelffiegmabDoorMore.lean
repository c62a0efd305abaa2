/-
  Small facts: sums that wrap, values that are valid, blocks of memory.
-/
import Derived.Test.YtjplnelffiegmabDoorShown
import Derived.Test.YtjplnelffiegmabDoorLaid
namespace Go.Proofs.YtjplnelffiegmabDoor
open Go.RowKit Go.Joins Go.Sort
abbrev cells8 (a0 a1 a2 a3 a4 a5 a6 a7 : Int) : Array Value := #[.int .i64 a0, .int .i64 a1, .int .i64 a2, .int .i64 a3, .int .i64 a4, .int .i64 a5, .int .i64 a6, .int .i64 a7]
theorem alloc_block2 (w : World) (x y : Obj) : ((w.alloc x).alloc y).heap[w.heap.size + 1]? = some y := by
  have h := alloc_block (w.alloc x) y
  rwa [World.size_alloc] at h
theorem add_int_is {n : Int} {s : ByteArray} {a0 a1 a2 a3 a4 a5 a6 a7 : Int} {n' : Int} {s' : ByteArray} {b0 b1 b2 b3 b4 b5 b6 b7 : Int} {w : World} (r : Int) (hr : wrap64 (n + n') = r) (hv : validB 1 n s a0 a1 a2 a3 a4 a5 a6 a7 = true) (hv' : validB 1 n' s' b0 b1 b2 b3 b4 b5 b6 b7 = true) :
    Calls Tryd.prog 17 #[V 1 n s a0 a1 a2 a3 a4 a5 a6 a7, V 1 n' s' b0 b1 b2 b3 b4 b5 b6 b7] w fun e w' => e = .returned (.tuple #[V 1 r ⟨#[]⟩ 0 0 0 0 0 0 0 0, .int .i64 0]) ∧ Below w.heap.size w w' := by
  rw [← hr]; exact add_int hv hv'
theorem add_hist_is {n : Int} {s : ByteArray} {a0 a1 a2 a3 a4 a5 a6 a7 : Int} {n' : Int} {s' : ByteArray} {b0 b1 b2 b3 b4 b5 b6 b7 : Int} {w : World} (r0 r1 r2 r3 r4 r5 r6 r7 : Int)
    (hr : wrap64 (a0 + b0) = r0 ∧ wrap64 (a1 + b1) = r1 ∧ wrap64 (a2 + b2) = r2 ∧ wrap64 (a3 + b3) = r3 ∧ wrap64 (a4 + b4) = r4 ∧ wrap64 (a5 + b5) = r5 ∧ wrap64 (a6 + b6) = r6 ∧ wrap64 (a7 + b7) = r7)
    (hv : validB 4 n s a0 a1 a2 a3 a4 a5 a6 a7 = true) (hv' : validB 4 n' s' b0 b1 b2 b3 b4 b5 b6 b7 = true) :
    Calls Tryd.prog 17 #[V 4 n s a0 a1 a2 a3 a4 a5 a6 a7, V 4 n' s' b0 b1 b2 b3 b4 b5 b6 b7] w fun e w' => e = .returned (.tuple #[V 4 0 ⟨#[]⟩ r0 r1 r2 r3 r4 r5 r6 r7, .int .i64 0]) ∧ Below w.heap.size w w' := by
  obtain ⟨rfl, rfl, rfl, rfl, rfl, rfl, rfl, rfl⟩ := hr
  exact add_hist hv hv'
theorem valid_of_hist (a0 a1 a2 a3 a4 a5 a6 a7 : Int) : validB 4 0 ⟨#[]⟩ a0 a1 a2 a3 a4 a5 a6 a7 = true := by simp [validB, noText]
theorem eqV_self (k n : Int) (s : ByteArray) (a0 a1 a2 a3 a4 a5 a6 a7 : Int) : eqV k n s a0 a1 a2 a3 a4 a5 a6 a7 k n s a0 a1 a2 a3 a4 a5 a6 a7 = true := by simp [eqV, eqH]
theorem wrap64_ok {n : Int} (h : Ok64 n) : wrap64 (n + 0) = n := by
  unfold Ok64 at h
  go_arith
theorem wrap64_opp (n : Int) : wrap64 (n + wrap64 (-n)) = 0 := by go_arith

end Go.Proofs.YtjplnelffiegmabDoor
