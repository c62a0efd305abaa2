/-
  What the statements' cut (the first rows of a table) returns.
-/
import Derived.Test.YtoadamimfhjoiaaRCheckAll
namespace Go.Proofs.Ytoadamimfhjoiaa
open Go.RowKit Go.Sort Go.Shelf

theorem SlAt.take {α : Type} {Q : Nat → Prop} {enc : α → List Value} {k : Nat} {w : World} {p : Option Addr} {n cap : Nat} {xs : List α} (h : SlAt Q enc k w (.slice p n cap) xs) (m : Nat) (hm : m ≤ n) : SlAt Q enc k w (.slice p m cap) (xs.take m) := by
  obtain ⟨p', cap', hv, ⟨hc, hno⟩, hmx, hx⟩ := h
  cases hv
  have hl : (xs.take m).length = m := by simp; omega
  refine ⟨p, cap, by rw [hl], ⟨by omega, hno⟩, by omega, fun hne => ?_⟩
  obtain ⟨b, o, hp, hQ, hj⟩ := hx (by intro e; subst e; simp at hne)
  refine ⟨b, o, hp, ⟨hQ.1, Nat.le_trans (Nat.mul_le_mul_right _ (by omega)) hQ.2⟩, fun j x hjx => hj j x ?_⟩
  have hlt : j < m := by have := (List.getElem?_eq_some_iff.1 hjx).1; omega
  rwa [List.getElem?_take_of_lt hlt] at hjx
theorem HeadsIn.take {Q : Nat → Prop} {w : World} {hs : List Value} {rs : List Rw} (h : HeadsIn Q w hs rs) (m : Nat) : HeadsIn Q w (hs.take m) (rs.take m) := by
  refine ⟨by rw [List.length_take, List.length_take, h.1], fun j x r h1 h2 => ?_⟩
  have hlt : j < m := by have := (List.getElem?_eq_some_iff.1 h1).1; simp at this; omega
  rw [List.getElem?_take_of_lt hlt] at h1 h2
  exact h.2 j x r h1 h2
set_option maxHeartbeats 1000000 in
theorem cut_any {v : Value} {cs : List Cl} {rs : List Rw} {w : World} (hv : TabAt w v cs rs) :
    Calls Try.prog 10 #[v] w fun e w' => ∃ v', e = .returned v' ∧ TabAt w' v' cs (rs.take 200) ∧ Below w.heap.size w w' := by
  obtain ⟨c, r, rfl, hc, hs, hr, hh⟩ := hv
  have HR := hid hr
  obtain ⟨p, cap, rfl, ⟨hcap, -⟩, -, -⟩ := hr
  obtain ⟨q, cap', rfl, -, -, -⟩ := id hc
  have HC := hid hc
  have HH := hid hh
  clear hc hh
  generalize hn : hs.length = n at *
  have HN := hid hn
  clear hn
  by_cases h : 200 < n
  · have g : (200 : Int) < (n : Int) := by omega
    go_enter Try.func10, Try.ntmps10
    go_wp2
    have HB := hid (((Below.refl w.heap.size w).alloc (Nat.le_refl _) (.cells #[.slice q cs.length cap', .slice p 200 cap] 25)).alloc (by simp) (.cells #[.slice q cs.length cap', .slice p 200 cap] 25))
    refine bodyPost_ret (v := .agg #[.slice q cs.length cap', .slice p 200 cap]) (by simp [results, Try.results10, go_sem]) rfl ⟨_, rfl, ⟨_, _, rfl, HC.out.on HB.out, hs.take 200, (HR.out.take 200 (by omega)).on HB.out, (HH.out.take 200).on HB.out⟩, HB.out⟩
  · have g : ¬ (200 : Int) < (n : Int) := by omega
    go_enter Try.func10, Try.ntmps10
    go_wp2
    have HB := hid (((Below.refl w.heap.size w).alloc (Nat.le_refl _) (.cells #[.slice q cs.length cap', .slice p n cap] 25)).alloc (by simp) (.cells #[.slice q cs.length cap', .slice p n cap] 25))
    rw [List.take_of_length_le (by rw [← HH.out.1, HN.out]; omega)]
    refine bodyPost_ret (v := .agg #[.slice q cs.length cap', .slice p n cap]) (by simp [results, Try.results10, go_sem]) rfl ⟨_, rfl, ⟨_, _, rfl, HC.out.on HB.out, hs, HR.out.on HB.out, HH.out.on HB.out⟩, HB.out⟩
end Go.Proofs.Ytoadamimfhjoiaa
