/-
  The walk of catchmentlaw02.TableChecks.
-/
import Derived.Test.YtoadamimfhjoiaaShown
import Derived.Test.YtoadamimfhjoiaaCut
namespace Go.Proofs.Ytoadamimfhjoiaa
open Go.RowKit Go.Sort Go.Shelf

/- cut, its value written out: the same memory, fewer rows. -/
set_option maxHeartbeats 1000000 in
theorem cut_val {q p : Option Addr} {nc cap' n cap : Nat} {w : World} (hcap : n ≤ cap) :
    Calls Try.prog 10 #[.agg #[.slice q nc cap', .slice p n cap]] w fun e w' => e = .returned (.agg #[.slice q nc cap', .slice p (min n 200) cap]) ∧ Below w.heap.size w w' := by
  by_cases h : 200 < n
  · have g : (200 : Int) < (n : Int) := by omega
    rw [Nat.min_eq_right (by omega)]
    go_enter Try.func10, Try.ntmps10
    go_wp2
    exact bodyPost_ret (v := .agg #[.slice q nc cap', .slice p 200 cap]) (by simp [results, Try.results10, go_sem]) rfl ⟨rfl, ((Below.refl w.heap.size w).alloc (Nat.le_refl _) (.cells #[.slice q nc cap', .slice p 200 cap] 25)).alloc (by simp) (.cells #[.slice q nc cap', .slice p 200 cap] 25)⟩
  · have g : ¬ (200 : Int) < (n : Int) := by omega
    rw [Nat.min_eq_left (by omega)]
    go_enter Try.func10, Try.ntmps10
    go_wp2
    exact bodyPost_ret (v := .agg #[.slice q nc cap', .slice p n cap]) (by simp [results, Try.results10, go_sem]) rfl ⟨rfl, ((Below.refl w.heap.size w).alloc (Nat.le_refl _) (.cells #[.slice q nc cap', .slice p n cap] 25)).alloc (by simp) (.cells #[.slice q nc cap', .slice p n cap] 25)⟩
/- A table, its value written out, and the first rows of it. -/
theorem TabAt.cuts {w : World} {v : Value} {cs : List Cl} {rs : List Rw} (h : TabAt w v cs rs) : ∃ q nc cap' p n cap, v = .agg #[.slice q nc cap', .slice p n cap] ∧ n ≤ cap ∧ TabAt w (.agg #[.slice q nc cap', .slice p (min n 200) cap]) cs (rs.take 200) := by
  obtain ⟨c, r, rfl, hc, hs, hr, hh⟩ := h
  obtain ⟨q, cap', rfl, -⟩ := id hc
  obtain ⟨p, cap, rfl, ⟨hcap, -⟩, -⟩ := id hr
  refine ⟨_, _, _, p, _, cap, rfl, hcap, ?_⟩
  by_cases h : 200 < hs.length
  · rw [Nat.min_eq_right (by omega)]
    exact ⟨_, _, rfl, hc, hs.take 200, hr.take 200 (by omega), hh.take 200⟩
  · rw [Nat.min_eq_left (by omega), List.take_of_length_le (by rw [← hh.1]; omega)]
    exact ⟨_, _, rfl, hc, hs, hr, hh⟩
theorem regrown_block {w : World} {b : Nat} {xs : Array Value} {t : TypeId} {fz : Nat × Nat} (h : w.heap[b]? = some (.cells xs t fz)) (d : Nat) (os : Array Obj) (o : Nat) : (grow (redrawn w d) os).cell? ⟨b, o, none⟩ = xs[o]? := block_cell (block_on h (below_regrown w d os)) o
theorem rname_it {s : ByteArray} {r : Bool} {w : World} (hs : s.size ≤ maxLen) (h : nameB s = r) : Calls Try.prog 14 #[.string s] w fun e w' => e = .returned (.bool r) ∧ Below w.heap.size w w' := (rname_is hs h).mono (by rintro e w' ⟨rfl, rfl⟩; exact ⟨rfl, Below.refl _ _⟩)
theorem name_it {s : ByteArray} {r : Bool} {w : World} (hs : s.size ≤ maxLen) (h : nameB s = r) : Calls Try.prog 13 #[.string s] w fun e w' => e = .returned (.bool r) ∧ Below w.heap.size w w' := (name_is hs h).mono (by rintro e w' ⟨rfl, rfl⟩; exact ⟨rfl, Below.refl _ _⟩)
theorem rcheck_is {v : Value} {cs : List Cl} {rs : List Rw} {w : World} {c : Int} (hv : TabAt w v cs rs) (h : checkV cs rs = c) :
    Calls Try.prog 12 #[v] w fun e w' => e = .returned (.int .i64 c) ∧ Below w.heap.size w w' := by rw [← h]; exact rcheck_any hv
set_option maxHeartbeats 1000000 in
theorem checks_any {v : Value} {cs : List Cl} {rs : List Rw} {s : ByteArray} {w : World} (hv : TabAt w v cs rs) (hs : s.size ≤ maxLen) :
    Calls Try.prog 3 #[v, .string s] w fun e w' => e = .returned (.bool true) ∧ Below w.heap.size w w' := by
  obtain ⟨q, nc, cap', p, n, cap, rfl, hcap, hc⟩ := hv.cuts
  have HC := hid hc
  have HS := hid hs
  clear hv hc hs
  generalize rs.take 200 = rs' at *
  have HE := hid ((Below.refl w.heap.size w).alloc (Nat.le_refl _) (.cells #[.slice q nc cap', .slice p n cap] 25))
  have K0 := hid (alloc_block w (.cells #[.slice q nc cap', .slice p n cap] 25))
  obtain ⟨ch, hch⟩ : ∃ c, checkV cs rs' = c := ⟨_, rfl⟩
  obtain ⟨nb, hnb⟩ : ∃ c, nameB s = c := ⟨_, rfl⟩
  obtain ⟨fc, hfc⟩ : ∃ c, findC cs s = c := ⟨_, rfl⟩
  have HCH := hid hch
  have HNB := hid hnb
  have HFC := hid hfc
  clear hch hnb hfc
  generalize hm : min n 200 = m at *
  go_enter Try.func3, Try.ntmps3
  go_wp2_with (first
    | (go_at_call 9; refine shown_any.mono ?_; rintro e w1 ⟨rfl, hb1⟩; have HB1 := hid (below_on HE.out hb1); have K1 := hid (block_on K0.out hb1); have k1 := block_cell K1.out; clear hb1)
    | (go_at_call 10; refine (cut_val hcap).mono ?_; rintro e w2 ⟨rfl, hb2⟩; rw [hm]; have HB2 := hid (below_on HB1.out hb2); have K2 := hid (block_on K1.out hb2); clear k1 hb2; have k2 := block_cell K2.out; have f2 := frozen_no K2.out))
  have K3 := hid (Joins.block_setCell (i := 1) (Joins.block_setCell (i := 0) K2.out (.slice q nc cap')) (.slice p m cap))
  have HB3 := hid (below_set (i := 1) (u := .slice p m cap) (below_set (i := 0) (u := .slice q nc cap') HB2.out (Nat.le_refl _)) (Nat.le_refl _))
  clear k2 f2 K0 K1 K2 HB1 HB2 HE hm hcap
  generalize ((w2.setCell ⟨w.heap.size, 0, none⟩ (.slice q nc cap')).setCell ⟨w.heap.size, 1, none⟩ (.slice p m cap)) = W3 at *
  have kk := regrown_block K3.out
  have HT : ∀ d os, Hid (TabAt (grow (redrawn W3 d) os) (.agg #[.slice q nc cap', .slice p m cap]) cs rs') := fun d os => HC.out.on (below_on HB3.out (below_regrown W3 d os))
  refine wp_region_quiet_below (by kernel_rfl) (by kernel_rfl) ?_
  repeat (go_big_quiet_step (first
    | (go_at_call 11; exact Calls.regrown_of (check_is (HT _ _).out HCH.out))
    | (go_at_call 12; exact Calls.regrown_of (rcheck_is (HT _ _).out HCH.out))
    | (go_at_call 13; exact Calls.regrown_of (name_it HS.out HNB.out))
    | (go_at_call 14; exact Calls.regrown_of (rname_it HS.out HNB.out))
    | (go_at_call 15; exact Calls.regrown_of (find_is (HT _ _).out.cols HFC.out))
    | (go_at_call 16; exact Calls.regrown_of (rfind_is (HT _ _).out.cols HFC.out))))
  refine wpQuiet_nil ?_
  intro _ hw'
  obtain ⟨⟨dq, osq⟩, hw''⟩ := hw'
  subst hw''
  go_wp2
  go_ret
  exact ⟨rfl, below_on HB3.out (below_regrown W3 dq osq)⟩
end Go.Proofs.Ytoadamimfhjoiaa
