/-
  What Get, Len and Span of package runs return.
-/
import Derived.Test.YtkjbnanjlcdgjaaQAdd2
namespace Go.Proofs.Ytkjbnanjlcdgjaa
open Go.RowKit Go.Sort Go.Shelf

theorem find_is {B : Nat} {P : Nat → Prop} {w : World} {b pp : Nat} {sv pv : Value} {l : List Sp} {at' : Int} {qq : Bool} (h : Rk B P w b sv pv l) (hlen : l.length ≤ 1000) (hp : posT at' l = pp) (hq : hasT l at' = qq) :
    Calls Try.prog 21 #[dp b, .int .i64 at'] w fun e w' => e = .returned (.tuple #[.int .i64 0, .int .i64 (pp : Nat), .bool qq]) ∧ Below w.heap.size w w' := by rw [← hp, ← hq]; exact find_any h hlen
set_option maxRecDepth 100000 in
set_option maxHeartbeats 2000000 in
theorem get_any {B : Nat} {P Q : Nat → Prop} {w : World} {b : Nat} {sv pv : Value} {l : List Sp} {at' : Int} (h : Rk B P w b sv pv l) (hlen : l.length ≤ 1000) (hQ : ∀ k, w.heap.size ≤ k → Q k) :
    Calls Try.prog 11 #[dp b, .int .i64 at'] w fun e w' => ∃ p c, e = .returned (.tuple #[.slice p (List.length (getT l at')) c, .bool (hasT l at')]) ∧ RowIn (ty36 Q w') w' (.slice p (List.length (getT l at')) c) (getT l at') ∧ Below w.heap.size w w' := by
  have HK := hid h
  have HLen := hid hlen
  have HQ := hid hQ
  clear hQ
  cases hc : hasT l at' with
  | false =>
    have HC := hid hc
    have hg := getT_no hc
    rw [hg]
    clear h hlen hc hg
    go_enter Try.func11, Try.ntmps11
    go_wp2_with (go_at_call 21; refine (find_any HK.out HLen.out).mono ?_; rintro e w1 ⟨rfl, hb1⟩; rw [HC.out]; have HB1 := hid hb1; clear hb1)
    go_ret2
    exact ⟨none, 0, rfl, SlAt.nil _ _ _ _, HB1.out⟩
  | true =>
    have HC := hid hc
    obtain ⟨s, hs, hst, hg⟩ := hasT_pos h.up hc
    rw [hg]
    have hne : l ≠ [] := by intro e; subst e; cases hc
    obtain ⟨g, c, g2, c2, rfl, rfl, hv⟩ := rk_view h hlen hne
    have hc1 := hv.hc
    have hc2 := hv.hc2
    have hpl := (List.getElem?_eq_some_iff.1 hs).1
    have HV := hid hv
    have HS := hid hs
    clear h hlen hc hg hst hne hv hs
    generalize hpp : posT at' l = pp at *
    have HPP := hid hpp
    clear hpp
    have HR : Hid (∀ w1, Below w.heap.size w w1 → w1.cell? ⟨b, 0, none⟩ = some (.slice (some ⟨g, 0, none⟩) 1 c) ∧ w1.cell? ⟨g, 0, none⟩ = some (.slice (some ⟨g2, 0, none⟩) l.length c2) ∧ ∃ kp kc, w1.cell? ⟨g2, pp * 2 + 1, none⟩ = some (.slice kp (List.length s.vs) kc) ∧ RowAt w1 (.slice kp (List.length s.vs) kc) s.vs) := fun w1 hb => by
      have hv := HV.out.on hb
      obtain ⟨kp, kc, -, c1, hr⟩ := hv.sm pp s HS.out
      exact ⟨hv.k0, hv.k1, kp, kc, c1, hr.at⟩
    generalize hn : l.length = n at *
    have HN := hid hn
    clear hn
    go_enter Try.func11, Try.ntmps11
    go_wp2_with (first
      | (go_at_call 21; refine (find_is HK.out (by rw [HN.out]; exact HLen.out) HPP.out HC.out).mono ?_; rintro e w1 ⟨rfl, hb1⟩; have HB1 := hid hb1; obtain ⟨k0, k1, kp, kc, k2, hr⟩ := HR.out w1 hb1; have HR1 := hid hr; clear hb1 hr)
      | (go_at_call 22; refine (cloneK_any (P := Q) HR1.out (fun k hk => HQ.out k (Nat.le_trans HB1.out.size hk))).mono ?_; rintro e w2 ⟨p3, c3, rfl, hr2, hb2⟩; have HR2 := hid hr2; have HB2 := hid (HB1.out.trans (hb2.mono HB1.out.size)); clear hb2 hr2))
    go_ret2
    exact ⟨p3, c3, rfl, HR2.out, HB2.out⟩
set_option maxRecDepth 100000 in
set_option maxHeartbeats 1000000 in
theorem len_any {B : Nat} {P : Nat → Prop} {w : World} {b : Nat} {sv pv : Value} {l : List Sp} (h : Rk B P w b sv pv l) (hlen : l.length ≤ 1000) :
    Calls Try.prog 14 #[dp b] w fun e w' => e = .returned (.int .i64 l.length) ∧ Below w.heap.size w w' := by
  by_cases hne : l = []
  · subst hne
    obtain ⟨rfl, rfl, k0⟩ := rk_none h
    clear h
    go_enter Try.func14, Try.ntmps14
    go_wp2
    go_loopw [3, 11] (fun nv iv wr => nv = .int .i64 0 ∧ iv = .int .i64 0 ∧ Hid (Below w.heap.size w wr)) (fun _ _ _ => 0)
    case atStart => exact ⟨rfl, rfl, Below.refl _ _⟩
    case round =>
      obtain ⟨rfl, rfl, HB⟩ := hrel
      go_wp2
      go_ret
      exact ⟨rfl, HB.out⟩
  · obtain ⟨g, c, g2, c2, rfl, rfl, hv⟩ := rk_view h hlen hne
    obtain ⟨k0, k1, hc, hc2, -⟩ := hv
    clear h hne
    generalize l.length = n at *
    go_enter Try.func14, Try.ntmps14
    go_wp2
    go_loopw [3, 11] (fun nv iv wr => ∃ k : Nat, k ≤ 1 ∧ nv = .int .i64 ((k * n : Nat) : Int) ∧ iv = .int .i64 k ∧ wr = w) (fun _ iv _ => 1 - (intOf iv).toNat)
    case atStart => exact ⟨0, by omega, by simp, rfl, rfl⟩
    case round =>
      obtain ⟨k, hk, rfl, rfl, hw⟩ := hrel
      subst hw
      by_cases hk0 : k = 0
      · subst hk0
        rw [Nat.zero_mul]
        go_wp2
        go_roundw
        case rel => exact ⟨1, by omega, by go_num, by first | trivial | go_num, by first | trivial | rfl⟩
        case measure => simp [intOf]
      · obtain rfl : k = 1 := by omega
        rw [Nat.one_mul]
        go_wp2
        go_ret
        exact ⟨rfl, Below.refl _ _⟩
def spF (l : List Sp) : Int := (l.head?.map (·.t)).getD 0
def spL (l : List Sp) : Int := (l.getLast?.map (·.t)).getD 0
def spS (l : List Sp) : Bool := !l.isEmpty
set_option maxRecDepth 100000 in
set_option maxHeartbeats 1000000 in
theorem span_any {B : Nat} {P : Nat → Prop} {w : World} {b : Nat} {sv pv : Value} {l : List Sp} (h : Rk B P w b sv pv l) (hlen : l.length ≤ 1000) :
    Calls Try.prog 18 #[dp b] w fun e w' => e = .returned (.tuple #[.int .i64 (spF l), .int .i64 (spL l), .bool (spS l)]) ∧ Below w.heap.size w w' := by
  by_cases hne : l = []
  · subst hne
    obtain ⟨rfl, rfl, k0⟩ := rk_none h
    clear h
    go_enter Try.func18, Try.ntmps18
    go_wp2
    go_ret3
    exact ⟨rfl, Below.refl _ _⟩
  · obtain ⟨g, c, g2, c2, rfl, rfl, hv⟩ := rk_view h hlen hne
    have hn0 : 0 < l.length := Nat.pos_of_ne_zero (fun e => hne (List.eq_nil_of_length_eq_zero e))
    obtain ⟨s, hs⟩ : ∃ s, l[0]? = some s := ⟨l[0], List.getElem?_eq_getElem hn0⟩
    obtain ⟨z, hz⟩ : ∃ z, l[l.length - 1]? = some z := ⟨l[l.length - 1], List.getElem?_eq_getElem (by omega)⟩
    obtain ⟨kp, kc, c0, -⟩ := hv.sm 0 s hs
    obtain ⟨kp', kc', d0, -⟩ := hv.sm _ z hz
    have e1 : spF l = s.t := by unfold spF; rw [List.head?_eq_getElem?, hs]; rfl
    have e2 : spL l = z.t := by unfold spL; rw [List.getLast?_eq_getElem?, hz]; rfl
    have e3 : spS l = true := by unfold spS; simp [hne]
    rw [e1, e2, e3]
    obtain ⟨k0, k1, hc, hc2, -⟩ := hv
    rw [Nat.zero_mul] at c0
    clear h hne hs hz e1 e2 e3
    generalize l.length = n at *
    go_enter Try.func18, Try.ntmps18
    go_wp2_with fail
    go_quiet (fail)
    go_wp2_with fail
    have hnn : 0 ≤ (n : Int) - 1 := by omega
    have htn : ((n : Int) - 1).toNat = n - 1 := by omega
    go_quiet (fail)
    go_wp2
    go_ret3
    exact ⟨rfl, below_drewN (below_drewN (Below.refl _ _) _) _⟩
end Go.Proofs.Ytkjbnanjlcdgjaa
