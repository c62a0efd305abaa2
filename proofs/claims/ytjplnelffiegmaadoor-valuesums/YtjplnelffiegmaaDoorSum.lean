/-
  What value.Add, and addBuckets, return: of two valid values of one kind that can be added, and of all others.
-/
import Derived.Test.YtjplnelffiegmaaDoorHolds
namespace Go.Proofs.YtjplnelffiegmaaDoor
open Go.RowKit
abbrev S8 (a0 a1 a2 a3 a4 a5 a6 a7 b0 b1 b2 b3 b4 b5 b6 b7 : Int) : Value := H8 (wrap64 (a0 + b0)) (wrap64 (a1 + b1)) (wrap64 (a2 + b2)) (wrap64 (a3 + b3)) (wrap64 (a4 + b4)) (wrap64 (a5 + b5)) (wrap64 (a6 + b6)) (wrap64 (a7 + b7))
set_option maxHeartbeats 1000000 in
theorem addBuckets_any {a0 a1 a2 a3 a4 a5 a6 a7 b0 b1 b2 b3 b4 b5 b6 b7 : Int} {w : World} :
    Calls Tryd.prog 35 #[H8 a0 a1 a2 a3 a4 a5 a6 a7, H8 b0 b1 b2 b3 b4 b5 b6 b7] w fun e w' => e = .returned (S8 a0 a1 a2 a3 a4 a5 a6 a7 b0 b1 b2 b3 b4 b5 b6 b7) ∧ Below w.heap.size w w' := by
  go_enter Tryd.func35, Tryd.ntmps35
  go_wp2
  refine wp_loop_rounds 9 ?_
  rw [rounds_succ]
  go_wp2
  go_region
  go_wp2
  rw [rounds_succ]
  go_wp2
  go_region
  go_wp2
  rw [rounds_succ]
  go_wp2
  go_region
  go_wp2
  rw [rounds_succ]
  go_wp2
  go_region
  go_wp2
  rw [rounds_succ]
  go_wp2
  go_region
  go_wp2
  rw [rounds_succ]
  go_wp2
  go_region
  go_wp2
  rw [rounds_succ]
  go_wp2
  go_region
  go_wp2
  rw [rounds_succ]
  go_wp2
  go_region
  go_wp2
  rw [rounds_succ]
  go_wp2
  refine bodyPost_ret (v := S8 a0 a1 a2 a3 a4 a5 a6 a7 b0 b1 b2 b3 b4 b5 b6 b7) (by simp [results, Tryd.results35, go_sem]) rfl ⟨rfl, ?_⟩
  go_grown
theorem below_on {W w1 w2 : World} (h : Below W.heap.size W w1) (h2 : Below w1.heap.size w1 w2) : Below W.heap.size W w2 := h.trans (h2.mono h.size)
set_option maxHeartbeats 1000000 in
theorem add_int {n : Int} {s : ByteArray} {a0 a1 a2 a3 a4 a5 a6 a7 : Int} {n' : Int} {s' : ByteArray} {b0 b1 b2 b3 b4 b5 b6 b7 : Int} {w : World} (hv : validB 1 n s a0 a1 a2 a3 a4 a5 a6 a7 = true) (hv' : validB 1 n' s' b0 b1 b2 b3 b4 b5 b6 b7 = true) :
    Calls Tryd.prog 18 #[V 1 n s a0 a1 a2 a3 a4 a5 a6 a7, V 1 n' s' b0 b1 b2 b3 b4 b5 b6 b7] w fun e w' => e = .returned (.tuple #[V 1 (wrap64 (n + n')) ⟨#[]⟩ 0 0 0 0 0 0 0 0, .int .i64 0]) ∧ Below w.heap.size w w' := by
  go_enter Tryd.func18, Tryd.ntmps18
  go_wp2_with fail
  refine valid_any.mono ?_
  rintro e w1 ⟨rfl, hb⟩
  obtain ⟨hc, hf⟩ := bcell hb
  go_wp2_with fail
  refine valid_any.mono ?_
  rintro e w2 ⟨rfl, hb2⟩
  replace hb := below_on hb hb2
  clear hb2 hc hf
  obtain ⟨hc, hf⟩ := bcell hb
  go_wp2_with fail
  refine ofInt_any.mono ?_
  rintro e w3 ⟨rfl, hb2⟩
  replace hb := below_on hb hb2
  clear hb2 hc hf
  obtain ⟨hc, hf⟩ := bcell hb
  go_wp2
  have hbw : Below w.heap.size w w3 := ((((Below.refl _ _).alloc (Nat.le_refl _) _).alloc (by simp) _).alloc (by go_size) _).trans (hb.mono (by go_size))
  refine bodyPost_ret (v := .tuple #[V 1 (wrap64 (n + n')) ⟨#[]⟩ 0 0 0 0 0 0 0 0, .int .i64 0]) (by simp [results, Tryd.results18, go_sem, hc]) rfl ⟨rfl, ?_⟩
  clear hc hf hb
  go_grown
set_option maxHeartbeats 1000000 in
theorem add_hist {n : Int} {s : ByteArray} {a0 a1 a2 a3 a4 a5 a6 a7 : Int} {n' : Int} {s' : ByteArray} {b0 b1 b2 b3 b4 b5 b6 b7 : Int} {w : World} (hv : validB 4 n s a0 a1 a2 a3 a4 a5 a6 a7 = true) (hv' : validB 4 n' s' b0 b1 b2 b3 b4 b5 b6 b7 = true) :
    Calls Tryd.prog 18 #[V 4 n s a0 a1 a2 a3 a4 a5 a6 a7, V 4 n' s' b0 b1 b2 b3 b4 b5 b6 b7] w fun e w' => e = .returned (.tuple #[V 4 0 ⟨#[]⟩ (wrap64 (a0 + b0)) (wrap64 (a1 + b1)) (wrap64 (a2 + b2)) (wrap64 (a3 + b3)) (wrap64 (a4 + b4)) (wrap64 (a5 + b5)) (wrap64 (a6 + b6)) (wrap64 (a7 + b7)), .int .i64 0]) ∧ Below w.heap.size w w' := by
  go_enter Tryd.func18, Tryd.ntmps18
  go_wp2_with fail
  refine valid_any.mono ?_
  rintro e w1 ⟨rfl, hb⟩
  obtain ⟨hc, hf⟩ := bcell hb
  go_wp2_with fail
  refine valid_any.mono ?_
  rintro e w2 ⟨rfl, hb2⟩
  replace hb := below_on hb hb2
  clear hb2 hc hf
  obtain ⟨hc, hf⟩ := bcell hb
  go_wp2_with fail
  refine addBuckets_any.mono ?_
  rintro e w3 ⟨rfl, hb2⟩
  replace hb := below_on hb hb2
  clear hb2 hc hf
  obtain ⟨hc, hf⟩ := bcell hb
  go_wp2_with fail
  refine ofBuckets_any.mono ?_
  rintro e w4 ⟨rfl, hb2⟩
  replace hb := below_on hb hb2
  clear hb2 hc hf
  obtain ⟨hc, hf⟩ := bcell hb
  go_wp2
  have hbw : Below w.heap.size w w4 := ((((Below.refl _ _).alloc (Nat.le_refl _) _).alloc (by simp) _).alloc (by go_size) _).trans (hb.mono (by go_size))
  refine bodyPost_ret (v := .tuple #[V 4 0 ⟨#[]⟩ (wrap64 (a0 + b0)) (wrap64 (a1 + b1)) (wrap64 (a2 + b2)) (wrap64 (a3 + b3)) (wrap64 (a4 + b4)) (wrap64 (a5 + b5)) (wrap64 (a6 + b6)) (wrap64 (a7 + b7)), .int .i64 0]) (by simp [results, Tryd.results18, go_sem, hc]) rfl ⟨rfl, ?_⟩
  clear hc hf hb
  go_grown
set_option maxHeartbeats 1000000 in
theorem add_other {k : Int} {n : Int} {s : ByteArray} {a0 a1 a2 a3 a4 a5 a6 a7 : Int} {n' : Int} {s' : ByteArray} {b0 b1 b2 b3 b4 b5 b6 b7 : Int} {w : World} (hv : validB k n s a0 a1 a2 a3 a4 a5 a6 a7 = true) (hv' : validB k n' s' b0 b1 b2 b3 b4 b5 b6 b7 = true) (h1 : (k == 1) = false) (h4 : (k == 4) = false) :
    Calls Tryd.prog 18 #[V k n s a0 a1 a2 a3 a4 a5 a6 a7, V k n' s' b0 b1 b2 b3 b4 b5 b6 b7] w fun e w' => e = .returned (.tuple #[V 0 0 ⟨#[]⟩ 0 0 0 0 0 0 0 0, .int .i64 10]) ∧ Below w.heap.size w w' := by
  go_enter Tryd.func18, Tryd.ntmps18
  go_wp2_with fail
  refine valid_any.mono ?_
  rintro e w1 ⟨rfl, hb⟩
  obtain ⟨hc, hf⟩ := bcell hb
  go_wp2_with fail
  refine valid_any.mono ?_
  rintro e w2 ⟨rfl, hb2⟩
  replace hb := below_on hb hb2
  clear hb2 hc hf
  obtain ⟨hc, hf⟩ := bcell hb
  go_wp2
  have hbw : Below w.heap.size w w2 := ((((Below.refl _ _).alloc (Nat.le_refl _) _).alloc (by simp) _).alloc (by go_size) _).trans (hb.mono (by go_size))
  refine bodyPost_ret (v := .tuple #[V 0 0 ⟨#[]⟩ 0 0 0 0 0 0 0 0, .int .i64 10]) (by simp [results, Tryd.results18, go_sem, hc]) rfl ⟨rfl, ?_⟩
  clear hc hf hb
  go_grown
set_option maxHeartbeats 1000000 in
theorem add_bad2 {k : Int} {n : Int} {s : ByteArray} {a0 a1 a2 a3 a4 a5 a6 a7 : Int} {n' : Int} {s' : ByteArray} {b0 b1 b2 b3 b4 b5 b6 b7 : Int} {w : World} (hv : validB k n s a0 a1 a2 a3 a4 a5 a6 a7 = true) (hv' : validB k n' s' b0 b1 b2 b3 b4 b5 b6 b7 = false) :
    Calls Tryd.prog 18 #[V k n s a0 a1 a2 a3 a4 a5 a6 a7, V k n' s' b0 b1 b2 b3 b4 b5 b6 b7] w fun e w' => e = .returned (.tuple #[V 0 0 ⟨#[]⟩ 0 0 0 0 0 0 0 0, .int .i64 10]) ∧ Below w.heap.size w w' := by
  go_enter Tryd.func18, Tryd.ntmps18
  go_wp2_with fail
  refine valid_any.mono ?_
  rintro e w1 ⟨rfl, hb⟩
  obtain ⟨hc, hf⟩ := bcell hb
  go_wp2_with fail
  refine valid_any.mono ?_
  rintro e w2 ⟨rfl, hb2⟩
  replace hb := below_on hb hb2
  clear hb2 hc hf
  obtain ⟨hc, hf⟩ := bcell hb
  go_wp2
  have hbw : Below w.heap.size w w2 := ((((Below.refl _ _).alloc (Nat.le_refl _) _).alloc (by simp) _).alloc (by go_size) _).trans (hb.mono (by go_size))
  refine bodyPost_ret (v := .tuple #[V 0 0 ⟨#[]⟩ 0 0 0 0 0 0 0 0, .int .i64 10]) (by simp [results, Tryd.results18, go_sem, hc]) rfl ⟨rfl, ?_⟩
  clear hc hf hb
  go_grown
set_option maxHeartbeats 1000000 in
theorem add_bad1 {k : Int} {n : Int} {s : ByteArray} {a0 a1 a2 a3 a4 a5 a6 a7 : Int} {n' : Int} {s' : ByteArray} {b0 b1 b2 b3 b4 b5 b6 b7 : Int} {w : World} (hv : validB k n s a0 a1 a2 a3 a4 a5 a6 a7 = false) :
    Calls Tryd.prog 18 #[V k n s a0 a1 a2 a3 a4 a5 a6 a7, V k n' s' b0 b1 b2 b3 b4 b5 b6 b7] w fun e w' => e = .returned (.tuple #[V 0 0 ⟨#[]⟩ 0 0 0 0 0 0 0 0, .int .i64 10]) ∧ Below w.heap.size w w' := by
  go_enter Tryd.func18, Tryd.ntmps18
  go_wp2_with fail
  refine valid_any.mono ?_
  rintro e w1 ⟨rfl, hb⟩
  obtain ⟨hc, hf⟩ := bcell hb
  go_wp2
  have hbw : Below w.heap.size w w1 := ((((Below.refl _ _).alloc (Nat.le_refl _) _).alloc (by simp) _).alloc (by go_size) _).trans (hb.mono (by go_size))
  refine bodyPost_ret (v := .tuple #[V 0 0 ⟨#[]⟩ 0 0 0 0 0 0 0 0, .int .i64 10]) (by simp [results, Tryd.results18, go_sem, hc]) rfl ⟨rfl, ?_⟩
  clear hc hf hb
  go_grown
set_option maxHeartbeats 1000000 in
theorem add_kinds {k k' : Int} {n : Int} {s : ByteArray} {a0 a1 a2 a3 a4 a5 a6 a7 : Int} {n' : Int} {s' : ByteArray} {b0 b1 b2 b3 b4 b5 b6 b7 : Int} {w : World} (hk : (k != k') = true) :
    Calls Tryd.prog 18 #[V k n s a0 a1 a2 a3 a4 a5 a6 a7, V k' n' s' b0 b1 b2 b3 b4 b5 b6 b7] w fun e w' => e = .returned (.tuple #[V 0 0 ⟨#[]⟩ 0 0 0 0 0 0 0 0, .int .i64 10]) ∧ Below w.heap.size w w' := by
  go_enter Tryd.func18, Tryd.ntmps18
  go_wp2
  refine bodyPost_ret (v := .tuple #[V 0 0 ⟨#[]⟩ 0 0 0 0 0 0 0 0, .int .i64 10]) (by simp [results, Tryd.results18, go_sem]) rfl ⟨rfl, ?_⟩
  go_grown
end Go.Proofs.YtjplnelffiegmaaDoor
