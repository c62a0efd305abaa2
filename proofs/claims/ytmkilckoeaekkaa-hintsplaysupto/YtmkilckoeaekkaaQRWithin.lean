/-
  What the reference's Within returns.
-/
import Derived.Test.YtmkilckoeaekkaaQMem
namespace Go.Proofs.Ytmkilckoeaekkaa
open Go.RowKit

theorem has_is {F : F256} {n : Nat} {b : Bool} (hn : n < 256) (hb : F.getLsbD n = b) (w : World) : Calls Try.prog 37 #[B4 F, .int .i64 n] w fun e w' => e = .returned (.bool b) ∧ Below w.heap.size w w' := by
  rw [← hb]; exact has_any F n hn w

theorem boxes2 (w : World) (F G : F256) : Fb ((w.alloc (.cells (c4 F) 49 (0, 0))).alloc (.cells (c4 G) 49 (0, 0))) w.heap.size F ∧ Fb ((w.alloc (.cells (c4 F) 49 (0, 0))).alloc (.cells (c4 G) 49 (0, 0))) (w.heap.size + 1) G ∧ Below w.heap.size w ((w.alloc (.cells (c4 F) 49 (0, 0))).alloc (.cells (c4 G) 49 (0, 0))) := by
  have k1 := Fb.made (w.alloc (.cells (c4 F) 49 (0, 0))) G
  simp only [World.size_alloc] at k1
  refine ⟨(Fb.made w F).alloc _, k1, ?_⟩
  go_grown
def witTo (F G : F256) (k : Nat) : Prop := ∀ n, n < k → F.getLsbD n = true → G.getLsbD n = true
theorem witTo_all {F G : F256} (h : witTo F G 256) : wit F G = true := wit_iff.2 h
theorem wit_no {F G : F256} {n : Nat} (hn : n < 256) (h1 : F.getLsbD n = true) (h2 : G.getLsbD n = false) : wit F G = false := by
  rw [Bool.eq_false_iff]; intro h
  rw [wit_iff.1 h n hn h1] at h2; cases h2
theorem witTo_succ {F G : F256} {k : Nat} (h : witTo F G k) (hk : F.getLsbD k = true → G.getLsbD k = true) : witTo F G (k + 1) := by
  intro n hn hf
  by_cases e : n = k
  · subst e; exact hk hf
  · exact h n (by omega) hf
set_option maxRecDepth 100000 in
set_option maxHeartbeats 1000000 in
theorem rwithin_any (F G : F256) (w : World) : Calls Try.prog 29 #[B4 F, B4 G] w fun e w' => e = .returned (.bool (wit F G)) ∧ Below w.heap.size w w' := by
  have HS := hid (boxes2 w F G)
  obtain ⟨r, hr⟩ : ∃ r, wit F G = r := ⟨_, rfl⟩
  rw [hr]
  have HR := hid hr
  clear hr
  go_enter Try.func29, Try.ntmps29
  go_wp2_with fail
  go_loopw [5] (fun i wr => ∃ j : Nat, j ≤ 256 ∧ i = .int .i64 j ∧ Hid (witTo F G j) ∧ Hid (Fb wr w.heap.size F) ∧ Hid (Fb wr (w.heap.size + 1) G) ∧ Hid (Below w.heap.size w wr)) (fun i _ => 256 - (intOf i).toNat)
  case atStart => exact ⟨0, by omega, rfl, fun _ h => by omega, HS.out.1, HS.out.2.1, HS.out.2.2⟩
  case round =>
    clear HS
    obtain ⟨j, hj, rfl, HT, K0, K1, HB⟩ := hrel
    have c0 := K0.out.cells
    have l0 := K0.out.lt
    have c1 := K1.out.cells
    have l1 := K1.out.lt
    by_cases hlt : j < 256
    · have HL := hid hlt
      have hI : (j : Int) < 256 := by omega
      clear hlt hj
      cases hb : F.getLsbD j with
      | true =>
        have HX := hid hb
        clear hb
        cases hb : G.getLsbD j with
        | true =>
          have HY := hid hb
          clear hb
          have M1 : Hid True := trivial
          go_wp2_with (first
            | (go_at_call 37; clear M1; refine (has_is HL.out HX.out _).mono ?_; rintro e w' ⟨rfl, hb⟩; replace K0 := hid (K0.out.on hb); replace K1 := hid (K1.out.on hb); replace HB := hid (below_on HB.out hb); clear hb c0 l0 c1 l1; have c1 := K1.out.cells; have l1 := K1.out.lt)
            | (go_at_call 37; refine (has_is HL.out HY.out _).mono ?_; rintro e w' ⟨rfl, hb⟩; replace K0 := hid (K0.out.on hb); replace K1 := hid (K1.out.on hb); replace HB := hid (below_on HB.out hb); clear hb c1 l1))
          go_roundw
          case rel => exact ⟨j + 1, HL.out, by go_num, witTo_succ HT.out (fun _ => HY.out), K0.out, K1.out, HB.out⟩
          case measure => simp [intOf]; omega
        | false =>
          have HY := hid hb
          clear hb
          have M1 : Hid True := trivial
          go_wp2_with (first
            | (go_at_call 37; clear M1; refine (has_is HL.out HX.out _).mono ?_; rintro e w' ⟨rfl, hb⟩; replace K0 := hid (K0.out.on hb); replace K1 := hid (K1.out.on hb); replace HB := hid (below_on HB.out hb); clear hb c0 l0 c1 l1; have c1 := K1.out.cells; have l1 := K1.out.lt)
            | (go_at_call 37; refine (has_is HL.out HY.out _).mono ?_; rintro e w' ⟨rfl, hb⟩; replace K0 := hid (K0.out.on hb); replace K1 := hid (K1.out.on hb); replace HB := hid (below_on HB.out hb); clear hb c1 l1))
          go_ret
          exact ⟨ret_bool (by rw [← HR.out]; exact (wit_no HL.out HX.out HY.out).symm), HB.out⟩
      | false =>
        have HX := hid hb
        clear hb
        go_wp2_with (go_at_call 37; refine (has_is HL.out HX.out _).mono ?_; rintro e w' ⟨rfl, hb⟩; replace K0 := hid (K0.out.on hb); replace K1 := hid (K1.out.on hb); replace HB := hid (below_on HB.out hb); clear hb c0 l0 c1 l1)
        go_roundw
        case rel => exact ⟨j + 1, HL.out, by go_num, witTo_succ HT.out (fun h => by rw [HX.out] at h; cases h), K0.out, K1.out, HB.out⟩
        case measure => simp [intOf]; omega
    · have h4 : j = 256 := by omega
      subst h4
      go_wp2
      go_ret
      exact ⟨ret_bool (by rw [← HR.out]; exact (witTo_all HT.out).symm), HB.out⟩
end Go.Proofs.Ytmkilckoeaekkaa
