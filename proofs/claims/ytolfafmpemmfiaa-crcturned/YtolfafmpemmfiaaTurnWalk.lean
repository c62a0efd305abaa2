/-
  The walk of catchmentlaw03.CrcTurned.
-/
import Derived.Test.YtolfafmpemmfiaaOwn
import Derived.Test.YtolfafmpemmfiaaTurn
namespace Go.Proofs.Ytolfafmpemmfiaa
open Go.RowKit Go.Sort

theorem own_form {B : Nat} {w : World} {v : Value} {xs : List UInt8} (h : Own B w v xs) (hne : xs ≠ []) : ∃ g cap, v = .slice (some ⟨g, 0, none⟩) xs.length cap ∧ B ≤ g ∧ xs.length ≤ cap := by
  rcases h.2 with ⟨_, h0⟩ | ⟨g, cap, cur, hv, hg, hblk, hc, hm, _⟩
  · exact absurd (List.eq_nil_of_length_eq_zero h0) hne
  · exact ⟨g, cap, hv, hg, hc⟩
theorem own_cell {B g cap l k : Nat} {w : World} {xs : List UInt8} {x : UInt8} (h : Own B w (.slice (some ⟨g, 0, none⟩) l cap) xs) (hx : xs[k]? = some x) : w.cell? ⟨g, k, none⟩ = some (.int .u8 (x.toNat : Int)) := by
  have := World.ownsRow.cells h (g := g) rfl k (bc x) (by rw [List.getElem?_map, hx]; rfl)
  rwa [Addr.add_lit, Nat.zero_add] at this
theorem own_frozen {B g cap l : Nat} {w : World} {xs : List UInt8} (h : Own B w (.slice (some ⟨g, 0, none⟩) l cap) xs) (hl : xs.length = l) (k : Nat) : w.frozen? ⟨g, k, none⟩ = false := by
  subst hl
  exact World.ownsRow.frozenAt h k
theorem set_map (xs : List UInt8) (k : Nat) (y : UInt8) : (xs.map bc).set k (bc y) = (xs.set k y).map bc := by
  rw [List.map_set]
theorem own_stored {B g cap l : Nat} {w : World} {xs : List UInt8} {y : UInt8} (h : Own B w (.slice (some ⟨g, 0, none⟩) l cap) xs) (hl : xs.length = l) (hB : B ≤ w.heap.size) (k : Nat) :
    Own B (w.setCell ⟨g, k, none⟩ (.int .u8 (y.toNat : Int))).drew (.slice (some ⟨g, 0, none⟩) l cap) (xs.set k y) ∧ Below B w (w.setCell ⟨g, k, none⟩ (.int .u8 (y.toNat : Int))).drew := by
  subst hl
  have hs := World.ownsRow.stored h k (bc y)
  rw [set_map] at hs
  refine ⟨?_, ?_⟩
  · show World.ownsRow _ B 5 1 _ (xs.set k y).length _
    rw [List.length_set]
    exact hs.1.drew
  · exact ((Below.refl B w).grown hs.2 hB (fun j e => h.lt j e)).trans ⟨rfl, rfl, rfl, Nat.le_refl _, fun _ _ => rfl⟩
theorem below_turned {w w2 w3 : World} {B : Nat} (h : Below w.heap.size w w2) (hb : w.heap.size ≤ B) (h2 : Below B w2 w3) : Below w.heap.size w w3 := h.trans (h2.mono hb)
set_option maxRecDepth 100000 in
set_option maxHeartbeats 1000000 in
theorem turn_core {v : Value} {xs : List UInt8} {c t : Int} {k j : Nat} {w : World} (hv : BAt w v xs) (hlen : xs.length ≤ 140737488351232) (hk : k < xs.length) (hj : j < 8) (hc0 : -9223372036854775808 ≤ c) (hc : c ≤ 9223372036854775807) (hkt : t / 8 % (xs.length : Int) = k) (hjt : t % 8 = j) (ht0 : 0 ≤ t) (ht : turn c = t) : Calls Try.prog 5 #[v, .int .i64 c] w fun e w' => e = .returned (.bool true) ∧ Below w.heap.size w w' := by
  have HV := hid hv
  have hne : xs ≠ [] := by intro e; subst e; simp at hk
  have HNE := hid hne
  obtain ⟨p, cap, rfl, -, -, -, -⟩ := hv
  generalize hl : xs.length = l at *
  have HL := hid hl
  clear hl hne
  have hl0 : ((l : Int) == 0) = false := by rw [Bool.eq_false_iff]; intro e; have := beq_iff_eq.1 e; omega
  by_cases h : c < 0
  · have ht' : -(c + 1) = t := by rw [← ht]; unfold turn; rw [if_pos h]
    clear ht
    go_enter Try.func5, Try.ntmps5
    go_wp2_with (first
      | (go_at_call 7; refine shown_any.mono ?_; rintro e w1 ⟨rfl, hb⟩; have HB := hid hb; clear hb)
      | (at_builtin; refine app_any rfl _ _ rfl rfl (Own.made w1.heap.size w1 (Nat.le_refl _)) rfl (BAt.on (HV.out.on HB.out) ((Below.refl _ _).alloc (Nat.le_refl _) _)) (by simp; have := HL.out; omega) (by simp) ?_; intro v' w2 hown hb2; rw [List.nil_append] at hown; obtain ⟨g, cq, hv', hBg, hcq⟩ := own_form hown HNE.out; rw [HL.out] at hv' hcq; subst hv'; have HO := hid hown; have HB2 := hid hb2; clear hown hb2))
    rw [hkt]
    obtain ⟨x, hx⟩ : ∃ x, xs[k]? = some x := ⟨xs[k]'(by rw [HL.out]; exact hk), List.getElem?_eq_getElem _⟩
    have HX := hid hx
    have hcell : w2.cell? ⟨g, k, none⟩ = some (.int .u8 (x.toNat : Int)) := own_cell HO.out hx
    have hfz : w2.frozen? ⟨g, k, none⟩ = false := own_frozen HO.out HL.out k
    clear hx
    have hb2 : Below w.heap.size w w2 := below_on HB.out (((Below.refl _ w1).alloc (Nat.le_refl _) _).trans HB2.out)
    have hst := own_stored (y := turned x j) HO.out HL.out (by have := HB2.out.size; simp at this; omega) k
    rw [← turned_bits hj] at hst
    have HST := hid hst
    have HB3 := hid hb2
    clear hst hb2
    go_region
    have HO3 := hid HST.out.1
    have HW3 := hid (below_turned HB3.out HB.out.size HST.out.2)
    clear hcell hfz HST HB3 HO HB2
    generalize World.drew _ = w3 at *
    have C1 := hid (sum_any HO3.out.bat)
    have C2 := hid (sum_any (HV.out.on HW3.out))
    have hne : (u (sum (xs.set k (turned x j))) != u (sum xs)) = true := by
      simp only [bne_iff_ne, ne_eq]
      intro e
      exact more_turned HX.out (turned_ne hj) (u_inj e)
    generalize u (sum (xs.set k (turned x j))) = s1 at *
    generalize u (sum xs) = s2 at *
    clear HO3
    go_wp2_with (first
      | (go_at_call 8; refine C1.out.mono ?_; rintro e w' ⟨rfl, rfl⟩)
      | (go_at_call 8; refine C2.out.mono ?_; rintro e w' ⟨rfl, rfl⟩))
    go_ret
    exact ⟨rfl, HW3.out⟩
  · have ht' : c = t := by rw [← ht]; unfold turn; rw [if_neg h]
    subst ht'
    clear ht
    go_enter Try.func5, Try.ntmps5
    go_wp2_with (first
      | (go_at_call 7; refine shown_any.mono ?_; rintro e w1 ⟨rfl, hb⟩; have HB := hid hb; clear hb)
      | (at_builtin; refine app_any rfl _ _ rfl rfl (Own.made w1.heap.size w1 (Nat.le_refl _)) rfl (BAt.on (HV.out.on HB.out) ((Below.refl _ _).alloc (Nat.le_refl _) _)) (by simp; have := HL.out; omega) (by simp) ?_; intro v' w2 hown hb2; rw [List.nil_append] at hown; obtain ⟨g, cq, hv', hBg, hcq⟩ := own_form hown HNE.out; rw [HL.out] at hv' hcq; subst hv'; have HO := hid hown; have HB2 := hid hb2; clear hown hb2))
    rw [hkt]
    obtain ⟨x, hx⟩ : ∃ x, xs[k]? = some x := ⟨xs[k]'(by rw [HL.out]; exact hk), List.getElem?_eq_getElem _⟩
    have HX := hid hx
    have hcell : w2.cell? ⟨g, k, none⟩ = some (.int .u8 (x.toNat : Int)) := own_cell HO.out hx
    have hfz : w2.frozen? ⟨g, k, none⟩ = false := own_frozen HO.out HL.out k
    clear hx
    have hb2 : Below w.heap.size w w2 := below_on HB.out (((Below.refl _ w1).alloc (Nat.le_refl _) _).trans HB2.out)
    have hst := own_stored (y := turned x j) HO.out HL.out (by have := HB2.out.size; simp at this; omega) k
    rw [← turned_bits hj] at hst
    have HST := hid hst
    have HB3 := hid hb2
    clear hst hb2
    go_region
    have HO3 := hid HST.out.1
    have HW3 := hid (below_turned HB3.out HB.out.size HST.out.2)
    clear hcell hfz HST HB3 HO HB2
    generalize World.drew _ = w3 at *
    have C1 := hid (sum_any HO3.out.bat)
    have C2 := hid (sum_any (HV.out.on HW3.out))
    have hne : (u (sum (xs.set k (turned x j))) != u (sum xs)) = true := by
      simp only [bne_iff_ne, ne_eq]
      intro e
      exact more_turned HX.out (turned_ne hj) (u_inj e)
    generalize u (sum (xs.set k (turned x j))) = s1 at *
    generalize u (sum xs) = s2 at *
    clear HO3
    go_wp2_with (first
      | (go_at_call 8; refine C1.out.mono ?_; rintro e w' ⟨rfl, rfl⟩)
      | (go_at_call 8; refine C2.out.mono ?_; rintro e w' ⟨rfl, rfl⟩))
    go_ret
    exact ⟨rfl, HW3.out⟩
set_option maxHeartbeats 400000 in
theorem turn_none {p : Option Addr} {cap : Nat} {c : Int} {w : World} : Calls Try.prog 5 #[.slice p 0 cap, .int .i64 c] w fun e w' => e = .returned (.bool true) ∧ Below w.heap.size w w' := by
  go_enter Try.func5, Try.ntmps5
  go_wp2_with (first
    | (go_at_call 7; refine shown_any.mono ?_; rintro e w1 ⟨rfl, hb⟩; have HB := hid hb; clear hb))
  go_ret
  exact ⟨rfl, HB.out⟩
theorem turn_any {v : Value} {xs : List UInt8} {c : Int} {w : World} (hv : BAt w v xs) (hlen : xs.length ≤ 140737488351232) (hc0 : -9223372036854775808 ≤ c) (hc : c ≤ 9223372036854775807) : Calls Try.prog 5 #[v, .int .i64 c] w fun e w' => e = .returned (.bool true) ∧ Below w.heap.size w w' := by
  by_cases hn : xs = []
  · subst hn
    obtain ⟨p, cap, rfl, -, -, -, -⟩ := hv
    exact turn_none
  · have hl : 0 < xs.length := List.length_pos_iff.2 hn
    have h0 : 0 ≤ turn c := by unfold turn; split <;> omega
    generalize ht : turn c = t at h0
    have hd : 0 ≤ t / 8 := by omega
    have m0 := Int.emod_nonneg (t / 8) (b := (xs.length : Int)) (by omega)
    have m1 := Int.emod_lt_of_pos (t / 8) (b := (xs.length : Int)) (by omega)
    exact turn_core (k := (t / 8 % (xs.length : Int)).toNat) (j := (t % 8).toNat) hv hlen (by omega) (by omega) hc0 hc (by omega) (by omega) h0 ht
end Go.Proofs.Ytolfafmpemmfiaa
