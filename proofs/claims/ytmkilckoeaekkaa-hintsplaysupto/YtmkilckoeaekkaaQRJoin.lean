/-
  What the reference's Join returns.
-/
import Derived.Test.YtmkilckoeaekkaaQRWithin
namespace Go.Proofs.Ytmkilckoeaekkaa
open Go.RowKit

theorem setW_bit (F : F256) {q r : Nat} (hr : r < 64) : setW F q (fw F q ||| BitVec.twoPow 64 r) = F ||| bitn (64 * q + r) := by
  apply f_ext4; intro j hj
  rw [fw_setW _ _ _ hj, fw_or, fw_bitn _ _ hj, show (64 * q + r) / 64 = q by omega, show (64 * q + r) % 64 = r by omega]
  split
  · rename_i h; subst h; rfl
  · simp
theorem setW_add (F : F256) {q r : Nat} (hr : r < 64) (h : F.getLsbD (64 * q + r) = false) : setW F q (fw F q + BitVec.twoPow 64 r) = F ||| bitn (64 * q + r) := by
  rw [← setW_bit F hr]
  congr 1
  apply BitVec.add_eq_or_of_and_eq_zero
  apply BitVec.eq_of_getLsbD_eq; intro i hi
  rw [BitVec.getLsbD_and, BitVec.getLsbD_twoPow, fw_bit]
  by_cases e : r = i
  · subst e; rw [h]; simp
  · simp [e]
theorem u_add (x y : BitVec 64) : IntKind.u64.wrap (u x + u y) = u (x + y) := by
  unfold IntKind.wrap u
  simp [IntKind.signed, IntKind.bits, BitVec.toNat_add]
theorem u_two {r : Nat} (hr : r < 64) : IntKind.u64.wrap (2 ^ r) = u (BitVec.twoPow 64 r) := by
  have hp : 2 ^ r < 18446744073709551616 := Nat.pow_lt_pow_right (a := 2) (by omega) (n := 64) hr
  unfold u
  rw [BitVec.toNat_twoPow, Nat.mod_eq_of_lt hp, ← wrapN hp]
  congr 1
def rjTo (F G : F256) : Nat → F256
  | 0 => F
  | k + 1 => if G.getLsbD k = true then rjTo F G k ||| bitn k else rjTo F G k
theorem rjTo_bit (F G : F256) (k n : Nat) (hn : n < 256) : (rjTo F G k).getLsbD n = (F.getLsbD n || (decide (n < k) && G.getLsbD n)) := by
  induction k with
  | zero => simp [rjTo]
  | succ k ih =>
    rw [rjTo]
    by_cases e : n = k
    · subst e
      split <;> rename_i h
      · rw [or_bit _ _ _ hn, h]; simp
      · rw [ih]; simp at h; rw [h]; simp
    · have h2 : (n < k + 1) ↔ n < k := by omega
      split
      · rw [or_bit _ _ _ hn, ih]; simp [e, h2]
      · rw [ih]; simp [h2]
theorem rjTo_all (F G : F256) : rjTo F G 256 = F ||| G := by
  apply f_ext; intro n hn; rw [rjTo_bit _ _ _ _ hn, BitVec.getLsbD_or]; simp [hn]
theorem rjTo_no {F G : F256} {k : Nat} (h : G.getLsbD k = false) : rjTo F G (k + 1) = rjTo F G k := by rw [rjTo, h]; rfl
theorem rjTo_yes {F G : F256} {k : Nat} (h : G.getLsbD k = true) : rjTo F G (k + 1) = rjTo F G k ||| bitn k := by rw [rjTo, h]; rfl
theorem or_same {F : F256} {k : Nat} (h : F.getLsbD k = true) : F ||| bitn k = F := by
  apply f_ext; intro n hn; rw [or_bit _ _ _ hn]
  by_cases e : n = k
  · subst e; rw [h]; rfl
  · simp [e]
theorem boxes3 (w : World) (F G : F256) : Fb (((w.alloc (.cells (c4 F) 49 (0, 0))).alloc (.cells (c4 G) 49 (0, 0))).alloc (.cells zs 49 (0, 0))) w.heap.size F ∧ Fb (((w.alloc (.cells (c4 F) 49 (0, 0))).alloc (.cells (c4 G) 49 (0, 0))).alloc (.cells zs 49 (0, 0))) (w.heap.size + 1) G ∧ Fb (((w.alloc (.cells (c4 F) 49 (0, 0))).alloc (.cells (c4 G) 49 (0, 0))).alloc (.cells zs 49 (0, 0))) (w.heap.size + 1 + 1) 0 ∧ Below w.heap.size w (((w.alloc (.cells (c4 F) 49 (0, 0))).alloc (.cells (c4 G) 49 (0, 0))).alloc (.cells zs 49 (0, 0))) := by
  have k1 := Fb.made (w.alloc (.cells (c4 F) 49 (0, 0))) G
  have k2 := Fb.zero ((w.alloc (.cells (c4 F) 49 (0, 0))).alloc (.cells (c4 G) 49 (0, 0)))
  simp only [World.size_alloc] at k1 k2
  refine ⟨((Fb.made w F).alloc _).alloc _, k1.alloc _, k2, ?_⟩
  go_grown
set_option maxRecDepth 100000 in
set_option maxHeartbeats 1000000 in
theorem rjoin_any (F G : F256) (w : World) : Calls Try.prog 32 #[B4 F, B4 G] w fun e w' => e = .returned (B4 (F ||| G)) ∧ Below w.heap.size w w' := by
  have HS := hid (boxes3 w F G)
  obtain ⟨J, hJ⟩ : ∃ J, F ||| G = J := ⟨_, rfl⟩
  rw [hJ]
  have HJ := hid hJ
  clear hJ
  go_enter Try.func32, Try.ntmps32
  go_wp2_with fail
  go_loopw [5] (fun i wr => ∃ j : Nat, j ≤ 256 ∧ i = .int .i64 j ∧ Hid (Fb wr w.heap.size (rjTo F G j)) ∧ Hid (Fb wr (w.heap.size + 1) G) ∧ Hid (Fb wr (w.heap.size + 1 + 1) 0) ∧ Hid (Below w.heap.size w wr)) (fun i _ => 256 - (intOf i).toNat)
  case atStart => exact ⟨0, by omega, rfl, HS.out.1, HS.out.2.1, HS.out.2.2.1, HS.out.2.2.2⟩
  case round =>
    clear HS
    obtain ⟨j, hj, rfl, K0, K1, K2, HB⟩ := hrel
    have c1 := K1.out.cells
    have l1 := K1.out.lt
    have c0 := K0.out.cells
    have l0 := K0.out.lt
    by_cases hlt : j < 256
    · have HL := hid hlt
      have hI : (j : Int) < 256 := by omega
      clear hlt hj
      cases hb : G.getLsbD j with
      | true =>
        have HX := hid hb
        have HN := hid (rjTo_yes (F := F) hb)
        clear hb
        generalize hA : rjTo F G j = A at *
        have HA := hid hA
        clear hA
        cases hb : A.getLsbD j with
        | true =>
          have HY := hid hb
          clear hb
          have M1 : Hid True := trivial
          go_wp2_with (first
            | (go_at_call 37; clear M1; refine (has_is HL.out HX.out _).mono ?_; rintro e w' ⟨rfl, hb⟩; replace K0 := hid (K0.out.on hb); replace K1 := hid (K1.out.on hb); replace K2 := hid (K2.out.on hb); replace HB := hid (below_on HB.out hb); clear hb c0 l0 c1 l1; have c0 := K0.out.cells; have l0 := K0.out.lt)
            | (go_at_call 37; refine (has_is HL.out HY.out _).mono ?_; rintro e w' ⟨rfl, hb⟩; replace K0 := hid (K0.out.on hb); replace K1 := hid (K1.out.on hb); replace K2 := hid (K2.out.on hb); replace HB := hid (below_on HB.out hb); clear hb c0 l0))
          go_roundw
          case rel => exact ⟨j + 1, HL.out, by go_num, by rw [HN.out, or_same HY.out]; exact K0.out, K1.out, K2.out, HB.out⟩
          case measure => simp [intOf]; omega
        | false =>
          have HY := hid hb
          clear hb
          have M1 : Hid True := trivial
          obtain ⟨q, r, hq, hr, hjq⟩ : ∃ q r, q < 4 ∧ r < 64 ∧ j = 64 * q + r := ⟨j / 64, j % 64, by omega, by omega, by omega⟩
          have h0 : (j : Int) / 64 = (q : Int) := by omega
          have h1 : (j : Int) % 64 = (r : Int) := by omega
          have HQ := hid hjq
          clear hjq
          go_wp2_with (first
            | (go_at_call 37; clear M1; refine (has_is HL.out HX.out _).mono ?_; rintro e w' ⟨rfl, hb⟩; replace K0 := hid (K0.out.on hb); replace K1 := hid (K1.out.on hb); replace K2 := hid (K2.out.on hb); replace HB := hid (below_on HB.out hb); clear hb c0 l0 c1 l1; have c0 := K0.out.cells; have l0 := K0.out.lt)
            | (go_at_call 37; refine (has_is HL.out HY.out _).mono ?_; rintro e w' ⟨rfl, hb⟩; replace K0 := hid (K0.out.on hb); replace K1 := hid (K1.out.on hb); replace K2 := hid (K2.out.on hb); replace HB := hid (below_on HB.out hb); clear hb c0 l0; have c0 := K0.out.cell hq; have f0 := K0.out.frozen q; have l0 := K0.out.lt))
          go_region
          go_wp2
          go_roundw
          case rel =>
            have e : IntKind.u64.wrap (u (fw A q) + IntKind.u64.wrap (2 ^ r)) = u (fw A q + BitVec.twoPow 64 r) := by rw [u_two hr, u_add]
            have hs := K0.out.set hq (fw A q + BitVec.twoPow 64 r)
            rw [← e, setW_add A hr (by rw [← HQ.out]; exact HY.out), ← HQ.out, ← HN.out] at hs
            exact ⟨j + 1, HL.out, by go_num, hs, K1.out.other (by omega), K2.out.other (by omega), (HB.out.setCell (Nat.le_refl _) _).drew⟩
          case measure => simp [intOf]; omega
      | false =>
        have HX := hid hb
        have HN := hid (rjTo_no (F := F) hb)
        clear hb
        go_wp2_with (go_at_call 37; refine (has_is HL.out HX.out _).mono ?_; rintro e w' ⟨rfl, hb⟩; replace K0 := hid (K0.out.on hb); replace K1 := hid (K1.out.on hb); replace K2 := hid (K2.out.on hb); replace HB := hid (below_on HB.out hb); clear hb c0 l0 c1 l1)
        go_roundw
        case rel => exact ⟨j + 1, HL.out, by go_num, by rw [HN.out]; exact K0.out, K1.out, K2.out, HB.out⟩
        case measure => simp [intOf]; omega
    · have h4 : j = 256 := by omega
      subst h4
      have c2 := K2.out.cells
      have f2 := K2.out.frozen
      have l2 := K2.out.lt
      have HR := hid (rjTo_all F G)
      generalize rjTo F G 256 = A at *
      clear c1 l1
      go_wp2
      refine bodyPost_ret (v := B4 A) (by simp [results, Try.results32, go_sem, c2]) rfl ⟨by rw [HR.out, HJ.out], ?_⟩
      have hbw := HB.out
      clear c2 f2 c0
      go_grown
end Go.Proofs.Ytmkilckoeaekkaa
