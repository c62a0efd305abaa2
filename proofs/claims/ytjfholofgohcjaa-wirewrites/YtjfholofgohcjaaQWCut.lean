/-
  What the cut (the first rows of a table) of wire's statements returns.
-/
import Derived.Test.YtjfholofgohcjaaPF
namespace Go.Proofs.Ytjfholofgohcjaa
open Go.RowKit Go.Sort Go.Shelf

/- cut, its value written out: the same memory, fewer rows. -/
set_option maxHeartbeats 1000000 in
theorem wcut_val {q p : Option Addr} {nc cap' n cap : Nat} {w : World} (hcap : n ≤ cap) :
    Calls Try.prog 25 #[.agg #[.slice q nc cap', .slice p n cap]] w fun e w' => e = .returned (.agg #[.slice q nc cap', .slice p (min n 200) cap]) ∧ Below w.heap.size w w' := by
  by_cases h : 200 < n
  · have g : (200 : Int) < (n : Int) := by omega
    rw [Nat.min_eq_right (by omega)]
    go_enter Try.func25, Try.ntmps25
    go_wp2
    exact bodyPost_ret (v := .agg #[.slice q nc cap', .slice p 200 cap]) (by simp [results, Try.results25, go_sem]) rfl ⟨rfl, ((Below.refl w.heap.size w).alloc (Nat.le_refl _) (.cells #[.slice q nc cap', .slice p 200 cap] 25)).alloc (by simp) (.cells #[.slice q nc cap', .slice p 200 cap] 25)⟩
  · have g : ¬ (200 : Int) < (n : Int) := by omega
    rw [Nat.min_eq_left (by omega)]
    go_enter Try.func25, Try.ntmps25
    go_wp2
    exact bodyPost_ret (v := .agg #[.slice q nc cap', .slice p n cap]) (by simp [results, Try.results25, go_sem]) rfl ⟨rfl, ((Below.refl w.heap.size w).alloc (Nat.le_refl _) (.cells #[.slice q nc cap', .slice p n cap] 25)).alloc (by simp) (.cells #[.slice q nc cap', .slice p n cap] 25)⟩
/- A table, its value written out, and the first rows of it. -/
theorem TabAt.wcuts {w : World} {v : Value} {cs : List Cl} {rs : List Rw} (h : TabAt w v cs rs) : ∃ q nc cap' p n cap, v = .agg #[.slice q nc cap', .slice p n cap] ∧ n ≤ cap ∧ TabAt w (.agg #[.slice q nc cap', .slice p (min n 200) cap]) cs (rs.take 200) := by
  obtain ⟨c, r, rfl, hc, hs, hr, hh⟩ := h
  obtain ⟨q, cap', rfl, -⟩ := id hc
  obtain ⟨p, cap, rfl, ⟨hcap, -⟩, -⟩ := id hr
  refine ⟨_, _, _, p, _, cap, rfl, hcap, ?_⟩
  by_cases h : 200 < hs.length
  · rw [Nat.min_eq_right (by omega)]
    exact ⟨_, _, rfl, hc, hs.take 200, hr.take 200 (by omega), hh.take 200⟩
  · rw [Nat.min_eq_left (by omega), List.take_of_length_le (by rw [← hh.1]; omega)]
    exact ⟨_, _, rfl, hc, hs, hr, hh⟩
end Go.Proofs.Ytjfholofgohcjaa
