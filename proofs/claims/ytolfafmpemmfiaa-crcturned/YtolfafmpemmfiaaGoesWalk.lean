/-
  The walk of catchmentlaw03.CrcGoesOn.
-/
import Derived.Test.YtolfafmpemmfiaaSlotsWalk
import Derived.Lib.QuietBelow
namespace Go.Proofs.Ytolfafmpemmfiaa
open Go.RowKit Go.Sort

theorem below_on {W w1 w2 : World} (h : Below W.heap.size W w1) (h2 : Below w1.heap.size w1 w2) : Below W.heap.size W w2 := h.trans (h2.mono h.size)
def turn (c : Int) : Int := if c < 0 then -(c + 1) else c
theorem cut_nat {c : Int} (n : Nat) : ∃ k : Nat, (turn c).tmod ((n : Int) + 1) = k ∧ k ≤ n := by
  have h0 : 0 ≤ turn c := by unfold turn; split <;> omega
  refine ⟨((turn c) % ((n : Int) + 1)).toNat, ?_, ?_⟩
  · rw [Int.tmod_eq_emod_of_nonneg h0]
    have := Int.emod_nonneg (turn c) (b := (n : Int) + 1) (by omega)
    omega
  · have := Int.emod_nonneg (turn c) (b := (n : Int) + 1) (by omega)
    have := Int.emod_lt_of_pos (turn c) (b := (n : Int) + 1) (by omega)
    omega
theorem calls_below {f : Nat} {args : Array Value} {w : World} {v : Value} (h : Calls Try.prog f args w fun e w' => e = .returned v ∧ w' = w) : Calls Try.prog f args w fun e w' => e = .returned v ∧ Below w.heap.size w w' := h.mono (by rintro e w' ⟨rfl, rfl⟩; exact ⟨rfl, Below.refl _ _⟩)
theorem BAt.take {w : World} {p : Option Addr} {n k cap : Nat} {xs : List UInt8} (hn : xs.length = n) (hk : k ≤ n) (h : BAt w (.slice p n cap) xs) : BAt w (.slice p k cap) (xs.take k) := by
  obtain ⟨p', cap', hv, hc, hno, hm, hx⟩ := h
  cases hv
  have hl : (xs.take k).length = k := by simp; omega
  refine ⟨p, cap, by rw [hl], by omega, hno, hm, fun hne => ?_⟩
  obtain ⟨a, ha, hj⟩ := hx (by intro e; subst e; simp at hne)
  refine ⟨a, ha, fun j x hjx => hj j x ?_⟩
  have hlt : j < k := by have := (List.getElem?_eq_some_iff.1 hjx).1; omega
  rwa [List.getElem?_take_of_lt hlt] at hjx
theorem add_add (a : Addr) (k j : Nat) : (a.add k).add j = a.add (k + j) := by
  unfold Addr.add
  by_cases hk : k = 0
  · subst hk; simp
  · by_cases hj : j = 0
    · subst hj; simp [hk]
    · simp [hk, hj, Nat.add_assoc]
theorem BAt.drop {w : World} {p : Option Addr} {n k cap : Nat} {xs : List UInt8} (hn : xs.length = n) (hk : k ≤ n) (h : BAt w (.slice p n cap) xs) : BAt w (.slice (if cap = k then p else Option.map (fun x => x.add k) p) (n - k) (cap - k)) (xs.drop k) := by
  obtain ⟨p', cap', hv, hc, hno, hm, hx⟩ := h
  cases hv
  have hl : (xs.drop k).length = xs.length - k := by simp
  refine ⟨_, _, by rw [hl], by omega, ?_, by omega, fun hne => ?_⟩
  · intro e
    split at e
    · omega
    · cases p with
      | none => have := hno rfl; omega
      | some a => cases e
  · have hlt : k < xs.length := by
      rcases Nat.lt_or_ge k xs.length with h | h
      · exact h
      · exact absurd (List.drop_eq_nil_of_le h) hne
    obtain ⟨a, rfl, hj⟩ := hx (by intro e; subst e; simp at hlt)
    rw [if_neg (by omega)]
    refine ⟨a.add k, rfl, fun j x hjx => ?_⟩
    rw [add_add]
    exact hj _ x (by rw [List.getElem?_drop] at hjx; exact hjx)
theorem more_cut (s : W32) (xs : List UInt8) (k : Nat) : more (more s (xs.take k)) (xs.drop k) = more s xs := by
  rw [← more_append, List.take_append_drop]
/- A call's contract in every world behind w. -/
def On (w : World) (f : Nat) (args : Array Value) (v : Value) : Prop := ∀ W', Below w.heap.size w W' → Calls Try.prog f args W' fun e w' => e = .returned v ∧ w' = W'
set_option maxRecDepth 100000 in
set_option maxHeartbeats 1000000 in
theorem goes_core {us m m1 z c : Int} {p pd : Option Addr} {n cap nd cd k : Nat} {w : World} (A : Hid (On w 12 #[.int .u32 us, .slice p n cap] (.int .u32 m))) (B : Hid (On w 13 #[.int .u32 us, .slice p n cap] (.int .u32 m))) (C : Hid (On w 12 #[.int .u32 us, .slice p k cap] (.int .u32 m1))) (D : Hid (On w 12 #[.int .u32 m1, .slice pd nd cd] (.int .u32 m)))
    (E : Hid (On w 12 #[.int .u32 0, .slice p n cap] (.int .u32 z))) (F : Hid (On w 8 #[.slice p n cap] (.int .u32 z))) (hpd : (if cap = k then p else Option.map (fun x => x.add k) p) = pd) (hnd : n - k = nd) (hcd : cap - k = cd)
    (hlen : n ≤ 140737488351232) (hcap : n ≤ cap) (hc0 : -9223372036854775808 ≤ c) (hc : c ≤ 9223372036854775807) (hk : (turn c).tmod ((n : Int) + 1) = k) (hkn : k ≤ n) : Calls Try.prog 4 #[.int .u32 us, .slice p n cap, .int .i64 c] w fun e w' => e = .returned (.bool true) ∧ Below w.heap.size w w' := by
  by_cases h : c < 0
  · have ht : turn c = -(c + 1) := by unfold turn; rw [if_pos h]
    rw [ht] at hk
    clear ht
    go_enter Try.func4, Try.ntmps4
    go_wp2_with (first
      | (go_at_call 7; refine shown_any.mono ?_; rintro e w1 ⟨rfl, hb⟩; have HB := hid hb; clear hb)
      | (go_at_call 12; refine (A.out _ HB.out).mono ?_; rintro e w' ⟨rfl, rfl⟩))
    have HB' : ∀ d os, Hid (Below w.heap.size w (grow (redrawn w' d) os)) := fun d os => below_on HB.out (below_regrown w' d os)
    refine wp_region_quiet_below (by kernel_rfl) (by kernel_rfl) ?_
    iterate 15 (go_big_quiet_step (first
      | (go_at_call 13; exact Calls.regrown_of (calls_below (B.out _ (HB' _ _).out)))
      | (go_at_call 12; exact Calls.regrown_of (calls_below (C.out _ (HB' _ _).out)))))
    iterate 4 (go_big_quiet_step (first | (go_at_call 12; exact Calls.regrown_of (calls_below (D.out _ (HB' _ _).out)))))
    repeat (go_big_quiet_step (first
      | (go_at_call 12; exact Calls.regrown_of (calls_below (E.out _ (HB' _ _).out)))
      | (go_at_call 8; exact Calls.regrown_of (calls_below (F.out _ (HB' _ _).out)))))
    refine wpQuiet_nil ?_
    intro _ hw'
    obtain ⟨⟨dq, osq⟩, hw''⟩ := hw'
    subst hw''
    go_wp2
    go_ret
    exact ⟨rfl, below_on HB.out (below_regrown w' dq osq)⟩
  · have ht : turn c = c := by unfold turn; rw [if_neg h]
    rw [ht] at hk
    clear ht
    go_enter Try.func4, Try.ntmps4
    go_wp2_with (first
      | (go_at_call 7; refine shown_any.mono ?_; rintro e w1 ⟨rfl, hb⟩; have HB := hid hb; clear hb)
      | (go_at_call 12; refine (A.out _ HB.out).mono ?_; rintro e w' ⟨rfl, rfl⟩))
    have HB' : ∀ d os, Hid (Below w.heap.size w (grow (redrawn w' d) os)) := fun d os => below_on HB.out (below_regrown w' d os)
    refine wp_region_quiet_below (by kernel_rfl) (by kernel_rfl) ?_
    iterate 15 (go_big_quiet_step (first
      | (go_at_call 13; exact Calls.regrown_of (calls_below (B.out _ (HB' _ _).out)))
      | (go_at_call 12; exact Calls.regrown_of (calls_below (C.out _ (HB' _ _).out)))))
    iterate 4 (go_big_quiet_step (first | (go_at_call 12; exact Calls.regrown_of (calls_below (D.out _ (HB' _ _).out)))))
    repeat (go_big_quiet_step (first
      | (go_at_call 12; exact Calls.regrown_of (calls_below (E.out _ (HB' _ _).out)))
      | (go_at_call 8; exact Calls.regrown_of (calls_below (F.out _ (HB' _ _).out)))))
    refine wpQuiet_nil ?_
    intro _ hw'
    obtain ⟨⟨dq, osq⟩, hw''⟩ := hw'
    subst hw''
    go_wp2
    go_ret
    exact ⟨rfl, below_on HB.out (below_regrown w' dq osq)⟩
theorem goes_any {s : W32} {v : Value} {xs : List UInt8} {c : Int} {w : World} (hv : BAt w v xs) (hlen : xs.length ≤ 140737488351232) (hc0 : -9223372036854775808 ≤ c) (hc : c ≤ 9223372036854775807) : Calls Try.prog 4 #[.int .u32 (u s), v, .int .i64 c] w fun e w' => e = .returned (.bool true) ∧ Below w.heap.size w w' := by
  have hv' := hv
  obtain ⟨p, cap, rfl, hcap, hnone, hmax, -⟩ := hv
  obtain ⟨k, hk, hkn⟩ := cut_nat (c := c) xs.length
  have hmc := more_cut s xs k
  exact goes_core (m := u (more s xs)) (z := u (sum xs)) (fun W' hb => more_any (hv'.on hb)) (fun W' hb => rmore_any (hv'.on hb)) (fun W' hb => more_any (BAt.take rfl hkn (hv'.on hb))) (fun W' hb => by have := more_any (s := more s (xs.take k)) (BAt.drop rfl hkn (hv'.on hb)); rw [hmc] at this; exact this)
    (fun W' hb => more0_any (hv'.on hb)) (fun W' hb => sum_any (hv'.on hb)) rfl rfl rfl hlen hcap hc0 hc hk hkn
end Go.Proofs.Ytolfafmpemmfiaa
