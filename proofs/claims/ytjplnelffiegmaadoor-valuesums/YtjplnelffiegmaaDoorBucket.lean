/-
  What value.Bucket, and the reference's Bucket, return, for every number.
-/
import Derived.Test.YtjplnelffiegmaaDoorSum
namespace Go.Proofs.YtjplnelffiegmaaDoor
open Go.RowKit
/- The bucket that a number falls into; what that bucket, or another, then holds. -/
def bk (n : Int) : Nat := if n < 1 then 0 else if n < 10 then 1 else if n < 100 then 2 else if n < 1000 then 3 else if n < 10000 then 4 else if n < 100000 then 5 else if n < 1000000 then 6 else 7
def hot (n : Int) (i : Nat) : Int := if i = bk n then 1 else 0
set_option maxHeartbeats 1000000 in
theorem bucket_0 {n : Int} {w : World} (hu : n < 1) :
    Calls Tryd.prog 21 #[.int .i64 n] w fun e w' => e = .returned (V 4 0 ⟨#[]⟩ 1 0 0 0 0 0 0 0) ∧ Below w.heap.size w w' := by
  go_enter Tryd.func21, Tryd.ntmps21
  go_wp2
  refine wp_loop_rounds 1 ?_
  rw [rounds_succ]
  go_wp2_with (go_at_call 25; refine ofBuckets_any.mono ?_; rintro e w1 ⟨rfl, hb⟩; obtain ⟨hc, hf⟩ := bcell hb)
  have hbw : Below w.heap.size w w1 := (((Below.refl _ _).alloc (Nat.le_refl _) _).alloc (by go_size) _).trans (hb.mono (by go_size))
  have hq : w.heap.size < w.heap.size + 1 + 1 := by omega
  refine bodyPost_ret (v := V 4 0 ⟨#[]⟩ 1 0 0 0 0 0 0 0) (by simp [results, Tryd.results21, go_sem, hc, hq]) rfl ⟨rfl, ?_⟩
  clear hc hf hb
  go_grown
set_option maxHeartbeats 1000000 in
theorem bucket_1 {n : Int} {w : World} (hl : 1 ≤ n) (hu : n < 10) :
    Calls Tryd.prog 21 #[.int .i64 n] w fun e w' => e = .returned (V 4 0 ⟨#[]⟩ 0 1 0 0 0 0 0 0) ∧ Below w.heap.size w w' := by
  go_enter Tryd.func21, Tryd.ntmps21
  go_wp2
  refine wp_loop_rounds 2 ?_
  rw [rounds_succ]
  go_wp2
  rw [rounds_succ]
  go_wp2_with (go_at_call 25; refine ofBuckets_any.mono ?_; rintro e w1 ⟨rfl, hb⟩; obtain ⟨hc, hf⟩ := bcell hb)
  have hbw : Below w.heap.size w w1 := (((Below.refl _ _).alloc (Nat.le_refl _) _).alloc (by go_size) _).trans (hb.mono (by go_size))
  have hq : w.heap.size < w.heap.size + 1 + 1 := by omega
  refine bodyPost_ret (v := V 4 0 ⟨#[]⟩ 0 1 0 0 0 0 0 0) (by simp [results, Tryd.results21, go_sem, hc, hq]) rfl ⟨rfl, ?_⟩
  clear hc hf hb
  go_grown
set_option maxHeartbeats 1000000 in
theorem bucket_2 {n : Int} {w : World} (hl : 10 ≤ n) (hu : n < 100) :
    Calls Tryd.prog 21 #[.int .i64 n] w fun e w' => e = .returned (V 4 0 ⟨#[]⟩ 0 0 1 0 0 0 0 0) ∧ Below w.heap.size w w' := by
  have h0 : 1 ≤ n := by omega
  go_enter Tryd.func21, Tryd.ntmps21
  go_wp2
  refine wp_loop_rounds 3 ?_
  rw [rounds_succ]
  go_wp2
  rw [rounds_succ]
  go_wp2
  rw [rounds_succ]
  go_wp2_with (go_at_call 25; refine ofBuckets_any.mono ?_; rintro e w1 ⟨rfl, hb⟩; obtain ⟨hc, hf⟩ := bcell hb)
  have hbw : Below w.heap.size w w1 := (((Below.refl _ _).alloc (Nat.le_refl _) _).alloc (by go_size) _).trans (hb.mono (by go_size))
  have hq : w.heap.size < w.heap.size + 1 + 1 := by omega
  refine bodyPost_ret (v := V 4 0 ⟨#[]⟩ 0 0 1 0 0 0 0 0) (by simp [results, Tryd.results21, go_sem, hc, hq]) rfl ⟨rfl, ?_⟩
  clear hc hf hb
  go_grown
set_option maxHeartbeats 1000000 in
theorem bucket_3 {n : Int} {w : World} (hl : 100 ≤ n) (hu : n < 1000) :
    Calls Tryd.prog 21 #[.int .i64 n] w fun e w' => e = .returned (V 4 0 ⟨#[]⟩ 0 0 0 1 0 0 0 0) ∧ Below w.heap.size w w' := by
  have h0 : 1 ≤ n := by omega
  have h1 : 10 ≤ n := by omega
  go_enter Tryd.func21, Tryd.ntmps21
  go_wp2
  refine wp_loop_rounds 4 ?_
  rw [rounds_succ]
  go_wp2
  rw [rounds_succ]
  go_wp2
  rw [rounds_succ]
  go_wp2
  rw [rounds_succ]
  go_wp2_with (go_at_call 25; refine ofBuckets_any.mono ?_; rintro e w1 ⟨rfl, hb⟩; obtain ⟨hc, hf⟩ := bcell hb)
  have hbw : Below w.heap.size w w1 := (((Below.refl _ _).alloc (Nat.le_refl _) _).alloc (by go_size) _).trans (hb.mono (by go_size))
  have hq : w.heap.size < w.heap.size + 1 + 1 := by omega
  refine bodyPost_ret (v := V 4 0 ⟨#[]⟩ 0 0 0 1 0 0 0 0) (by simp [results, Tryd.results21, go_sem, hc, hq]) rfl ⟨rfl, ?_⟩
  clear hc hf hb
  go_grown
set_option maxHeartbeats 1000000 in
theorem bucket_4 {n : Int} {w : World} (hl : 1000 ≤ n) (hu : n < 10000) :
    Calls Tryd.prog 21 #[.int .i64 n] w fun e w' => e = .returned (V 4 0 ⟨#[]⟩ 0 0 0 0 1 0 0 0) ∧ Below w.heap.size w w' := by
  have h0 : 1 ≤ n := by omega
  have h1 : 10 ≤ n := by omega
  have h2 : 100 ≤ n := by omega
  go_enter Tryd.func21, Tryd.ntmps21
  go_wp2
  refine wp_loop_rounds 5 ?_
  rw [rounds_succ]
  go_wp2
  rw [rounds_succ]
  go_wp2
  rw [rounds_succ]
  go_wp2
  rw [rounds_succ]
  go_wp2
  rw [rounds_succ]
  go_wp2_with (go_at_call 25; refine ofBuckets_any.mono ?_; rintro e w1 ⟨rfl, hb⟩; obtain ⟨hc, hf⟩ := bcell hb)
  have hbw : Below w.heap.size w w1 := (((Below.refl _ _).alloc (Nat.le_refl _) _).alloc (by go_size) _).trans (hb.mono (by go_size))
  have hq : w.heap.size < w.heap.size + 1 + 1 := by omega
  refine bodyPost_ret (v := V 4 0 ⟨#[]⟩ 0 0 0 0 1 0 0 0) (by simp [results, Tryd.results21, go_sem, hc, hq]) rfl ⟨rfl, ?_⟩
  clear hc hf hb
  go_grown
set_option maxHeartbeats 1000000 in
theorem bucket_5 {n : Int} {w : World} (hl : 10000 ≤ n) (hu : n < 100000) :
    Calls Tryd.prog 21 #[.int .i64 n] w fun e w' => e = .returned (V 4 0 ⟨#[]⟩ 0 0 0 0 0 1 0 0) ∧ Below w.heap.size w w' := by
  have h0 : 1 ≤ n := by omega
  have h1 : 10 ≤ n := by omega
  have h2 : 100 ≤ n := by omega
  have h3 : 1000 ≤ n := by omega
  go_enter Tryd.func21, Tryd.ntmps21
  go_wp2
  refine wp_loop_rounds 6 ?_
  rw [rounds_succ]
  go_wp2
  rw [rounds_succ]
  go_wp2
  rw [rounds_succ]
  go_wp2
  rw [rounds_succ]
  go_wp2
  rw [rounds_succ]
  go_wp2
  rw [rounds_succ]
  go_wp2_with (go_at_call 25; refine ofBuckets_any.mono ?_; rintro e w1 ⟨rfl, hb⟩; obtain ⟨hc, hf⟩ := bcell hb)
  have hbw : Below w.heap.size w w1 := (((Below.refl _ _).alloc (Nat.le_refl _) _).alloc (by go_size) _).trans (hb.mono (by go_size))
  have hq : w.heap.size < w.heap.size + 1 + 1 := by omega
  refine bodyPost_ret (v := V 4 0 ⟨#[]⟩ 0 0 0 0 0 1 0 0) (by simp [results, Tryd.results21, go_sem, hc, hq]) rfl ⟨rfl, ?_⟩
  clear hc hf hb
  go_grown
set_option maxHeartbeats 1000000 in
theorem bucket_6 {n : Int} {w : World} (hl : 100000 ≤ n) (hu : n < 1000000) :
    Calls Tryd.prog 21 #[.int .i64 n] w fun e w' => e = .returned (V 4 0 ⟨#[]⟩ 0 0 0 0 0 0 1 0) ∧ Below w.heap.size w w' := by
  have h0 : 1 ≤ n := by omega
  have h1 : 10 ≤ n := by omega
  have h2 : 100 ≤ n := by omega
  have h3 : 1000 ≤ n := by omega
  have h4 : 10000 ≤ n := by omega
  go_enter Tryd.func21, Tryd.ntmps21
  go_wp2
  refine wp_loop_rounds 7 ?_
  rw [rounds_succ]
  go_wp2
  rw [rounds_succ]
  go_wp2
  rw [rounds_succ]
  go_wp2
  rw [rounds_succ]
  go_wp2
  rw [rounds_succ]
  go_wp2
  rw [rounds_succ]
  go_wp2
  rw [rounds_succ]
  go_wp2_with (go_at_call 25; refine ofBuckets_any.mono ?_; rintro e w1 ⟨rfl, hb⟩; obtain ⟨hc, hf⟩ := bcell hb)
  have hbw : Below w.heap.size w w1 := (((Below.refl _ _).alloc (Nat.le_refl _) _).alloc (by go_size) _).trans (hb.mono (by go_size))
  have hq : w.heap.size < w.heap.size + 1 + 1 := by omega
  refine bodyPost_ret (v := V 4 0 ⟨#[]⟩ 0 0 0 0 0 0 1 0) (by simp [results, Tryd.results21, go_sem, hc, hq]) rfl ⟨rfl, ?_⟩
  clear hc hf hb
  go_grown
set_option maxHeartbeats 1000000 in
theorem bucket_7 {n : Int} {w : World} (hl : 1000000 ≤ n) :
    Calls Tryd.prog 21 #[.int .i64 n] w fun e w' => e = .returned (V 4 0 ⟨#[]⟩ 0 0 0 0 0 0 0 1) ∧ Below w.heap.size w w' := by
  have h0 : 1 ≤ n := by omega
  have h1 : 10 ≤ n := by omega
  have h2 : 100 ≤ n := by omega
  have h3 : 1000 ≤ n := by omega
  have h4 : 10000 ≤ n := by omega
  have h5 : 100000 ≤ n := by omega
  go_enter Tryd.func21, Tryd.ntmps21
  go_wp2
  refine wp_loop_rounds 8 ?_
  rw [rounds_succ]
  go_wp2
  rw [rounds_succ]
  go_wp2
  rw [rounds_succ]
  go_wp2
  rw [rounds_succ]
  go_wp2
  rw [rounds_succ]
  go_wp2
  rw [rounds_succ]
  go_wp2
  rw [rounds_succ]
  go_wp2
  rw [rounds_succ]
  go_wp2_with (go_at_call 25; refine ofBuckets_any.mono ?_; rintro e w1 ⟨rfl, hb⟩; obtain ⟨hc, hf⟩ := bcell hb)
  have hbw : Below w.heap.size w w1 := (((Below.refl _ _).alloc (Nat.le_refl _) _).alloc (by go_size) _).trans (hb.mono (by go_size))
  have hq : w.heap.size < w.heap.size + 1 + 1 := by omega
  refine bodyPost_ret (v := V 4 0 ⟨#[]⟩ 0 0 0 0 0 0 0 1) (by simp [results, Tryd.results21, go_sem, hc, hq]) rfl ⟨rfl, ?_⟩
  clear hc hf hb
  go_grown
theorem bucket_any {n : Int} {w : World} :
    Calls Tryd.prog 21 #[.int .i64 n] w fun e w' => e = .returned (V 4 0 ⟨#[]⟩ (hot n 0) (hot n 1) (hot n 2) (hot n 3) (hot n 4) (hot n 5) (hot n 6) (hot n 7)) ∧ Below w.heap.size w w' := by
  by_cases g0 : n < 1
  · have hh : ∀ i, hot n i = if i = 0 then 1 else 0 := fun i => by simp [hot, bk, g0]
    simp only [hh]
    exact bucket_0 (by omega)
  · by_cases g1 : n < 10
    · have hh : ∀ i, hot n i = if i = 1 then 1 else 0 := fun i => by simp [hot, bk, g0, g1]
      simp only [hh]
      exact bucket_1 (by omega) (by omega)
    · by_cases g2 : n < 100
      · have hh : ∀ i, hot n i = if i = 2 then 1 else 0 := fun i => by simp [hot, bk, g0, g1, g2]
        simp only [hh]
        exact bucket_2 (by omega) (by omega)
      · by_cases g3 : n < 1000
        · have hh : ∀ i, hot n i = if i = 3 then 1 else 0 := fun i => by simp [hot, bk, g0, g1, g2, g3]
          simp only [hh]
          exact bucket_3 (by omega) (by omega)
        · by_cases g4 : n < 10000
          · have hh : ∀ i, hot n i = if i = 4 then 1 else 0 := fun i => by simp [hot, bk, g0, g1, g2, g3, g4]
            simp only [hh]
            exact bucket_4 (by omega) (by omega)
          · by_cases g5 : n < 100000
            · have hh : ∀ i, hot n i = if i = 5 then 1 else 0 := fun i => by simp [hot, bk, g0, g1, g2, g3, g4, g5]
              simp only [hh]
              exact bucket_5 (by omega) (by omega)
            · by_cases g6 : n < 1000000
              · have hh : ∀ i, hot n i = if i = 6 then 1 else 0 := fun i => by simp [hot, bk, g0, g1, g2, g3, g4, g5, g6]
                simp only [hh]
                exact bucket_6 (by omega) (by omega)
              · have hh : ∀ i, hot n i = if i = 7 then 1 else 0 := fun i => by simp [hot, bk, g0, g1, g2, g3, g4, g5, g6]
                simp only [hh]
                exact bucket_7 (by omega)
set_option maxHeartbeats 1000000 in
theorem rbucket_0 {n : Int} {w : World} (hu : n < 1) :
    Calls Tryd.prog 22 #[.int .i64 n] w fun e w' => e = .returned (V 4 0 ⟨#[]⟩ 1 0 0 0 0 0 0 0) ∧ Below w.heap.size w w' := by
  go_enter Tryd.func22, Tryd.ntmps22
  go_wp2
  refine wp_loop_rounds 1 ?_
  rw [rounds_succ]
  go_wp2
  refine bodyPost_ret (v := V 4 0 ⟨#[]⟩ 1 0 0 0 0 0 0 0) (by simp [results, Tryd.results22, go_sem]) rfl ⟨rfl, ?_⟩
  go_grown
set_option maxHeartbeats 1000000 in
theorem rbucket_1 {n : Int} {w : World} (hl : 1 ≤ n) (hu : n < 10) :
    Calls Tryd.prog 22 #[.int .i64 n] w fun e w' => e = .returned (V 4 0 ⟨#[]⟩ 0 1 0 0 0 0 0 0) ∧ Below w.heap.size w w' := by
  go_enter Tryd.func22, Tryd.ntmps22
  go_wp2
  refine wp_loop_rounds 2 ?_
  rw [rounds_succ]
  go_wp2
  rw [rounds_succ]
  go_wp2
  refine bodyPost_ret (v := V 4 0 ⟨#[]⟩ 0 1 0 0 0 0 0 0) (by simp [results, Tryd.results22, go_sem]) rfl ⟨rfl, ?_⟩
  go_grown
set_option maxHeartbeats 1000000 in
theorem rbucket_2 {n : Int} {w : World} (hl : 10 ≤ n) (hu : n < 100) :
    Calls Tryd.prog 22 #[.int .i64 n] w fun e w' => e = .returned (V 4 0 ⟨#[]⟩ 0 0 1 0 0 0 0 0) ∧ Below w.heap.size w w' := by
  have h0 : 1 ≤ n := by omega
  go_enter Tryd.func22, Tryd.ntmps22
  go_wp2
  refine wp_loop_rounds 3 ?_
  rw [rounds_succ]
  go_wp2
  rw [rounds_succ]
  go_wp2
  rw [rounds_succ]
  go_wp2
  refine bodyPost_ret (v := V 4 0 ⟨#[]⟩ 0 0 1 0 0 0 0 0) (by simp [results, Tryd.results22, go_sem]) rfl ⟨rfl, ?_⟩
  go_grown
set_option maxHeartbeats 1000000 in
theorem rbucket_3 {n : Int} {w : World} (hl : 100 ≤ n) (hu : n < 1000) :
    Calls Tryd.prog 22 #[.int .i64 n] w fun e w' => e = .returned (V 4 0 ⟨#[]⟩ 0 0 0 1 0 0 0 0) ∧ Below w.heap.size w w' := by
  have h0 : 1 ≤ n := by omega
  have h1 : 10 ≤ n := by omega
  go_enter Tryd.func22, Tryd.ntmps22
  go_wp2
  refine wp_loop_rounds 4 ?_
  rw [rounds_succ]
  go_wp2
  rw [rounds_succ]
  go_wp2
  rw [rounds_succ]
  go_wp2
  rw [rounds_succ]
  go_wp2
  refine bodyPost_ret (v := V 4 0 ⟨#[]⟩ 0 0 0 1 0 0 0 0) (by simp [results, Tryd.results22, go_sem]) rfl ⟨rfl, ?_⟩
  go_grown
set_option maxHeartbeats 1000000 in
theorem rbucket_4 {n : Int} {w : World} (hl : 1000 ≤ n) (hu : n < 10000) :
    Calls Tryd.prog 22 #[.int .i64 n] w fun e w' => e = .returned (V 4 0 ⟨#[]⟩ 0 0 0 0 1 0 0 0) ∧ Below w.heap.size w w' := by
  have h0 : 1 ≤ n := by omega
  have h1 : 10 ≤ n := by omega
  have h2 : 100 ≤ n := by omega
  go_enter Tryd.func22, Tryd.ntmps22
  go_wp2
  refine wp_loop_rounds 5 ?_
  rw [rounds_succ]
  go_wp2
  rw [rounds_succ]
  go_wp2
  rw [rounds_succ]
  go_wp2
  rw [rounds_succ]
  go_wp2
  rw [rounds_succ]
  go_wp2
  refine bodyPost_ret (v := V 4 0 ⟨#[]⟩ 0 0 0 0 1 0 0 0) (by simp [results, Tryd.results22, go_sem]) rfl ⟨rfl, ?_⟩
  go_grown
set_option maxHeartbeats 1000000 in
theorem rbucket_5 {n : Int} {w : World} (hl : 10000 ≤ n) (hu : n < 100000) :
    Calls Tryd.prog 22 #[.int .i64 n] w fun e w' => e = .returned (V 4 0 ⟨#[]⟩ 0 0 0 0 0 1 0 0) ∧ Below w.heap.size w w' := by
  have h0 : 1 ≤ n := by omega
  have h1 : 10 ≤ n := by omega
  have h2 : 100 ≤ n := by omega
  have h3 : 1000 ≤ n := by omega
  go_enter Tryd.func22, Tryd.ntmps22
  go_wp2
  refine wp_loop_rounds 6 ?_
  rw [rounds_succ]
  go_wp2
  rw [rounds_succ]
  go_wp2
  rw [rounds_succ]
  go_wp2
  rw [rounds_succ]
  go_wp2
  rw [rounds_succ]
  go_wp2
  rw [rounds_succ]
  go_wp2
  refine bodyPost_ret (v := V 4 0 ⟨#[]⟩ 0 0 0 0 0 1 0 0) (by simp [results, Tryd.results22, go_sem]) rfl ⟨rfl, ?_⟩
  go_grown
set_option maxHeartbeats 1000000 in
theorem rbucket_6 {n : Int} {w : World} (hl : 100000 ≤ n) (hu : n < 1000000) :
    Calls Tryd.prog 22 #[.int .i64 n] w fun e w' => e = .returned (V 4 0 ⟨#[]⟩ 0 0 0 0 0 0 1 0) ∧ Below w.heap.size w w' := by
  have h0 : 1 ≤ n := by omega
  have h1 : 10 ≤ n := by omega
  have h2 : 100 ≤ n := by omega
  have h3 : 1000 ≤ n := by omega
  have h4 : 10000 ≤ n := by omega
  go_enter Tryd.func22, Tryd.ntmps22
  go_wp2
  refine wp_loop_rounds 7 ?_
  rw [rounds_succ]
  go_wp2
  rw [rounds_succ]
  go_wp2
  rw [rounds_succ]
  go_wp2
  rw [rounds_succ]
  go_wp2
  rw [rounds_succ]
  go_wp2
  rw [rounds_succ]
  go_wp2
  rw [rounds_succ]
  go_wp2
  refine bodyPost_ret (v := V 4 0 ⟨#[]⟩ 0 0 0 0 0 0 1 0) (by simp [results, Tryd.results22, go_sem]) rfl ⟨rfl, ?_⟩
  go_grown
set_option maxHeartbeats 1000000 in
theorem rbucket_7 {n : Int} {w : World} (hl : 1000000 ≤ n) :
    Calls Tryd.prog 22 #[.int .i64 n] w fun e w' => e = .returned (V 4 0 ⟨#[]⟩ 0 0 0 0 0 0 0 1) ∧ Below w.heap.size w w' := by
  have h0 : 1 ≤ n := by omega
  have h1 : 10 ≤ n := by omega
  have h2 : 100 ≤ n := by omega
  have h3 : 1000 ≤ n := by omega
  have h4 : 10000 ≤ n := by omega
  have h5 : 100000 ≤ n := by omega
  go_enter Tryd.func22, Tryd.ntmps22
  go_wp2
  refine wp_loop_rounds 8 ?_
  rw [rounds_succ]
  go_wp2
  rw [rounds_succ]
  go_wp2
  rw [rounds_succ]
  go_wp2
  rw [rounds_succ]
  go_wp2
  rw [rounds_succ]
  go_wp2
  rw [rounds_succ]
  go_wp2
  rw [rounds_succ]
  go_wp2
  rw [rounds_succ]
  go_wp2
  refine bodyPost_ret (v := V 4 0 ⟨#[]⟩ 0 0 0 0 0 0 0 1) (by simp [results, Tryd.results22, go_sem]) rfl ⟨rfl, ?_⟩
  go_grown
theorem rbucket_any {n : Int} {w : World} :
    Calls Tryd.prog 22 #[.int .i64 n] w fun e w' => e = .returned (V 4 0 ⟨#[]⟩ (hot n 0) (hot n 1) (hot n 2) (hot n 3) (hot n 4) (hot n 5) (hot n 6) (hot n 7)) ∧ Below w.heap.size w w' := by
  by_cases g0 : n < 1
  · have hh : ∀ i, hot n i = if i = 0 then 1 else 0 := fun i => by simp [hot, bk, g0]
    simp only [hh]
    exact rbucket_0 (by omega)
  · by_cases g1 : n < 10
    · have hh : ∀ i, hot n i = if i = 1 then 1 else 0 := fun i => by simp [hot, bk, g0, g1]
      simp only [hh]
      exact rbucket_1 (by omega) (by omega)
    · by_cases g2 : n < 100
      · have hh : ∀ i, hot n i = if i = 2 then 1 else 0 := fun i => by simp [hot, bk, g0, g1, g2]
        simp only [hh]
        exact rbucket_2 (by omega) (by omega)
      · by_cases g3 : n < 1000
        · have hh : ∀ i, hot n i = if i = 3 then 1 else 0 := fun i => by simp [hot, bk, g0, g1, g2, g3]
          simp only [hh]
          exact rbucket_3 (by omega) (by omega)
        · by_cases g4 : n < 10000
          · have hh : ∀ i, hot n i = if i = 4 then 1 else 0 := fun i => by simp [hot, bk, g0, g1, g2, g3, g4]
            simp only [hh]
            exact rbucket_4 (by omega) (by omega)
          · by_cases g5 : n < 100000
            · have hh : ∀ i, hot n i = if i = 5 then 1 else 0 := fun i => by simp [hot, bk, g0, g1, g2, g3, g4, g5]
              simp only [hh]
              exact rbucket_5 (by omega) (by omega)
            · by_cases g6 : n < 1000000
              · have hh : ∀ i, hot n i = if i = 6 then 1 else 0 := fun i => by simp [hot, bk, g0, g1, g2, g3, g4, g5, g6]
                simp only [hh]
                exact rbucket_6 (by omega) (by omega)
              · have hh : ∀ i, hot n i = if i = 7 then 1 else 0 := fun i => by simp [hot, bk, g0, g1, g2, g3, g4, g5, g6]
                simp only [hh]
                exact rbucket_7 (by omega)
end Go.Proofs.YtjplnelffiegmaaDoor
