/-
  What Of and Whole return, and the reference's.
-/
import Derived.Test.YtmkilckoeaekkaaQRJoin
namespace Go.Proofs.Ytmkilckoeaekkaa
open Go.RowKit

def xsOf (s : ByteArray) : List UInt8 := s.data.toList
theorem xsOf_len (s : ByteArray) : (xsOf s).length = s.size := Array.length_toList
theorem index_str (s : ByteArray) (k : Nat) (i : Int) (hi : i = (k : Int)) (h : k < s.size) (w : World) : (Instr.index 9 (.string s) (.int .i64 i)).run Try.prog w = .ok (.int .u8 (((xsOf s).getD k 0).toNat : Int)) w := by
  subst hi
  rw [run_index_string w 9 s .i64 (k : Int) Try.underlying9, dif_pos ⟨by omega, by omega⟩]
  congr 3
  have hk : k < (xsOf s).length := by rw [xsOf_len]; exact h
  rw [List.getD_eq_getElem?_getD, List.getElem?_eq_getElem hk]
  rfl
theorem boxesZ (w : World) : Fb ((w.alloc (.cells zs 49 (0, 0))).alloc (.cells zs 49 (0, 0))) w.heap.size 0 ∧ Fb ((w.alloc (.cells zs 49 (0, 0))).alloc (.cells zs 49 (0, 0))) (w.heap.size + 1) 0 ∧ Below w.heap.size w ((w.alloc (.cells zs 49 (0, 0))).alloc (.cells zs 49 (0, 0))) := by
  have k1 := Fb.zero (w.alloc (.cells zs 49 (0, 0)))
  simp only [World.size_alloc] at k1
  refine ⟨(Fb.zero w).alloc _, k1, ?_⟩
  go_grown
theorem tri_at (xs : List UInt8) (k : Nat) : (961 * (xs.getD k 0).toNat + 31 * (xs.getD (k + 1) 0).toNat + (xs.getD (k + 2) 0).toNat) % 256 = tri xs k := rfl
theorem ofTo_step {xs : List UInt8} {k t : Nat} {A : F256} (hA : ofTo xs k = A) (ht : tri xs k = t) : A ||| bitn t = ofTo xs (k + 1) := by rw [← hA, ← ht]; rfl
theorem ofTo_end {s : ByteArray} {k : Nat} (h : k = 0 ∨ k + 2 ≤ s.size) (hl : ¬ k + 2 < s.size) : ofTo (xsOf s) k = ofS (xsOf s) := by
  unfold ofS; rw [xsOf_len, show s.size - 2 = k by omega]
theorem bitOf_is {a b c : UInt8} {t : Nat} (h : (961 * a.toNat + 31 * b.toNat + c.toNat) % 256 = t) (w : World) : Calls Try.prog 38 #[.int .u8 (a.toNat : Int), .int .u8 (b.toNat : Int), .int .u8 (c.toNat : Int)] w fun e w' => e = .returned (.int .i64 (t : Int)) ∧ w' = w := by
  rw [← h]; exact bitOf_any a b c w
set_option maxRecDepth 100000 in
set_option maxHeartbeats 1000000 in
theorem of_any (s : ByteArray) (hs : s.size ≤ 1125899906842624) (w : World) : Calls Try.prog 36 #[.string s] w fun e w' => e = .returned (B4 (ofS (xsOf s))) ∧ Below w.heap.size w w' := by
  have HS := hid (boxesZ w)
  generalize hF : ofS (xsOf s) = F
  have HF := hid hF
  clear hF
  have hsI : (s.size : Int) ≤ 1125899906842624 := by omega
  clear hs
  go_enter Try.func36, Try.ntmps36
  go_wp2_with fail
  go_loopw [9] (fun i wr => ∃ k : Nat, Hid (k = 0 ∨ k + 2 ≤ s.size) ∧ i = .int .i64 k ∧ Hid (Fb wr w.heap.size 0) ∧ Hid (Fb wr (w.heap.size + 1) (ofTo (xsOf s) k)) ∧ Hid (Below w.heap.size w wr)) (fun i _ => s.size - (intOf i).toNat)
  case atStart => exact ⟨0, .inl rfl, rfl, HS.out.1, HS.out.2.1, HS.out.2.2⟩
  case round =>
    clear HS
    obtain ⟨k, HK, rfl, K0, K1, HB⟩ := hrel
    by_cases hlt : k + 2 < s.size
    · have hI : (k : Int) < (s.size : Int) - 2 := by omega
      have HL := hid hlt
      have i0 := index_str s k _ rfl (by omega)
      have i1 := index_str s (k + 1) ((k : Int) + 1) (by omega) (by omega)
      have i2 := index_str s (k + 2) ((k : Int) + 2) (by omega) (by omega)
      have HT := hid (tri_at (xsOf s) k)
      have HTL := hid (tri_lt (xsOf s) k)
      generalize (xsOf s).getD k 0 = a at *
      generalize (xsOf s).getD (k + 1) 0 = b at *
      generalize (xsOf s).getD (k + 2) 0 = c at *
      clear hlt
      go_wp2_with fail
      generalize ht : tri (xsOf s) k = t at *
      have HTE := hid ht
      clear ht
      obtain ⟨q, r, hq, hr, htq⟩ : ∃ q r, q < 4 ∧ r < 64 ∧ t = 64 * q + r := ⟨t / 64, t % 64, by have := HTL.out; omega, by omega, by omega⟩
      have h0 : (t : Int) / 64 = (q : Int) := by omega
      have h1 : (t : Int) % 64 = (r : Int) := by omega
      have HQ := hid htq
      clear htq
      go_quiet ((go_at_call 38; exact Calls.quiet_of_same (bitOf_is HT.out _)))
      generalize hA : ofTo (xsOf s) k = A at *
      have HA := hid hA
      clear hA i0 i1 i2
      replace K0 : Hid (Fb (wr.drewN nq) w.heap.size 0) := K0.out
      replace K1 : Hid (Fb (wr.drewN nq) (w.heap.size + 1) A) := K1.out
      replace HB := hid (below_drewN HB.out nq)
      generalize wr.drewN nq = w1 at *
      have c1 := K1.out.cell hq
      have f1 := K1.out.frozen q
      have l1 := K1.out.lt
      go_wp2_with fail
      go_region
      go_wp2
      go_roundw
      case rel =>
        have e : bits .or .u64 (u (fw A q)) (IntKind.u64.wrap (2 ^ r)) = u (fw A q ||| BitVec.twoPow 64 r) := by rw [u_two hr, bits_or]
        have hs := K1.out.set hq (fw A q ||| BitVec.twoPow 64 r)
        rw [← e, setW_bit A hr, ← HQ.out, ofTo_step HA.out HTE.out] at hs
        exact ⟨k + 1, .inr (by have := HL.out; omega), by go_num, K0.out.other (by omega), hs, (HB.out.setCell (by show _ ≤ w.heap.size + 1; omega) _).drew⟩
      case measure => simp [intOf]; have := HL.out; omega
    · have HE := hid (ofTo_end HK.out hlt)
      have hI : ¬ (k : Int) < (s.size : Int) - 2 := by omega
      clear hlt
      generalize ofTo (xsOf s) k = A at *
      have c0 := K0.out.cells
      have f0 := K0.out.frozen
      have l0 := K0.out.lt
      have c1 := K1.out.cells
      have l1 := K1.out.lt
      go_wp2
      refine bodyPost_ret (v := B4 A) (by simp [results, Try.results36, go_sem, c0]) rfl ⟨by rw [HE.out, HF.out], ?_⟩
      have hbw := HB.out
      clear c0 f0 c1
      go_grown
set_option maxRecDepth 100000 in
set_option maxHeartbeats 1000000 in
theorem rof_any (s : ByteArray) (hs : s.size ≤ 1125899906842624) (w : World) : Calls Try.prog 30 #[.string s] w fun e w' => e = .returned (B4 (ofS (xsOf s))) ∧ Below w.heap.size w w' := by
  have HS := hid (boxesZ w)
  generalize hF : ofS (xsOf s) = F
  have HF := hid hF
  clear hF
  have hsI : (s.size : Int) ≤ 1125899906842624 := by omega
  clear hs
  go_enter Try.func30, Try.ntmps30
  go_wp2_with fail
  go_loopw [4] (fun i wr => ∃ k : Nat, Hid (k = 0 ∨ k + 2 ≤ s.size) ∧ i = .int .i64 k ∧ Hid (Fb wr w.heap.size 0) ∧ Hid (Fb wr (w.heap.size + 1) (ofTo (xsOf s) k)) ∧ Hid (Below w.heap.size w wr)) (fun i _ => s.size - (intOf i).toNat)
  case atStart => exact ⟨0, .inl rfl, rfl, HS.out.1, HS.out.2.1, HS.out.2.2⟩
  case round =>
    clear HS
    obtain ⟨k, HK, rfl, K0, K1, HB⟩ := hrel
    by_cases hlt : k + 2 < s.size
    · have hI : (k : Int) + 2 < (s.size : Int) := by omega
      have HL := hid hlt
      have i0 := index_str s k _ rfl (by omega)
      have i1 := index_str s (k + 1) ((k : Int) + 1) (by omega) (by omega)
      have i2 := index_str s (k + 2) ((k : Int) + 2) (by omega) (by omega)
      have HT := hid (tri_at (xsOf s) k)
      have HTL := hid (tri_lt (xsOf s) k)
      have ha := ((xsOf s).getD k 0).toNat_lt
      have hb := ((xsOf s).getD (k + 1) 0).toNat_lt
      have hc := ((xsOf s).getD (k + 2) 0).toNat_lt
      generalize ((xsOf s).getD k 0).toNat = a at *
      generalize ((xsOf s).getD (k + 1) 0).toNat = b at *
      generalize ((xsOf s).getD (k + 2) 0).toNat = c at *
      have haI : (a : Int) < 256 := by omega
      have hbI : (b : Int) < 256 := by omega
      have hcI : (c : Int) < 256 := by omega
      clear hlt ha hb hc
      generalize ht : tri (xsOf s) k = t at *
      have HTE := hid ht
      have hti : (961 * (a : Int) + 31 * (b : Int) + (c : Int)) % 256 = (t : Int) := by have := HT.out; omega
      have htt : (961 * (a : Int) + 31 * (b : Int) + (c : Int)).tmod 256 = (t : Int) := by rw [Int.tmod_eq_emod_of_nonneg (by omega)]; exact hti
      clear ht
      obtain ⟨q, r, hq, hr, htq⟩ : ∃ q r, q < 4 ∧ r < 64 ∧ t = 64 * q + r := ⟨t / 64, t % 64, by have := HTL.out; omega, by omega, by omega⟩
      have h0 : (t : Int) / 64 = (q : Int) := by omega
      have h1 : (t : Int) % 64 = (r : Int) := by omega
      have hz : (0 : Int) ≤ (t : Int) := by omega
      have HQ := hid htq
      clear htq
      go_wp2_with fail
      go_quiet (fail)
      generalize hA : ofTo (xsOf s) k = A at *
      have HA := hid hA
      clear hA i0 i1 i2 htt hti
      replace K0 : Hid (Fb (wr.drewN nq) w.heap.size 0) := K0.out
      replace K1 : Hid (Fb (wr.drewN nq) (w.heap.size + 1) A) := K1.out
      replace HB := hid (below_drewN HB.out nq)
      generalize wr.drewN nq = w1 at *
      have c1 := K1.out.cells
      have l1 := K1.out.lt
      cases hb : A.getLsbD t with
      | true =>
        have HY := hid hb
        clear hb
        go_wp2_with (go_at_call 37; refine (has_is HTL.out HY.out _).mono ?_; rintro e w' ⟨rfl, hb⟩; replace K0 := hid (K0.out.on hb); replace K1 := hid (K1.out.on hb); replace HB := hid (below_on HB.out hb); clear hb c1 l1)
        go_roundw
        case rel =>
          refine ⟨k + 1, .inr (by have := HL.out; omega), by go_num, K0.out, ?_, HB.out⟩
          show Fb _ _ (ofTo (xsOf s) k ||| bitn (tri (xsOf s) k))
          rw [HA.out, HTE.out, or_same HY.out]; exact K1.out
        case measure => simp [intOf]; have := HL.out; omega
      | false =>
        have HY := hid hb
        clear hb
        go_wp2_with (go_at_call 37; refine (has_is HTL.out HY.out _).mono ?_; rintro e w' ⟨rfl, hb⟩; replace K0 := hid (K0.out.on hb); replace K1 := hid (K1.out.on hb); replace HB := hid (below_on HB.out hb); clear hb c1 l1; have c1 := K1.out.cell hq; have f1 := K1.out.frozen q; have l1 := K1.out.lt)
        go_region
        go_wp2
        go_roundw
        case rel =>
          have e : IntKind.u64.wrap (u (fw A q) + IntKind.u64.wrap (2 ^ r)) = u (fw A q + BitVec.twoPow 64 r) := by rw [u_two hr, u_add]
          have hs := K1.out.set hq (fw A q + BitVec.twoPow 64 r)
          rw [← e, setW_add A hr (by rw [← HQ.out]; exact HY.out), ← HQ.out, ofTo_step HA.out HTE.out] at hs
          exact ⟨k + 1, .inr (by have := HL.out; omega), by go_num, K0.out.other (by omega), hs, (HB.out.setCell (by show _ ≤ w.heap.size + 1; omega) _).drew⟩
        case measure => simp [intOf]; have := HL.out; omega
    · have HE := hid (ofTo_end HK.out hlt)
      have hI : ¬ (k : Int) + 2 < (s.size : Int) := by omega
      have hk : (k : Int) ≤ 1125899906842624 := by have := HK.out; omega
      clear hlt
      generalize ofTo (xsOf s) k = A at *
      have c0 := K0.out.cells
      have f0 := K0.out.frozen
      have l0 := K0.out.lt
      have c1 := K1.out.cells
      have l1 := K1.out.lt
      go_wp2
      refine bodyPost_ret (v := B4 A) (by simp [results, Try.results30, go_sem, c0]) rfl ⟨by rw [HE.out, HF.out], ?_⟩
      have hbw := HB.out
      clear c0 f0 c1
      go_grown
end Go.Proofs.Ytmkilckoeaekkaa
