/-
  What the reference's Digits returns, for every number.
-/
import Derived.Test.YtceifmnnejlkfaaDoorQApp
import Derived.Lib.ItoaLen
namespace Go.Proofs.YtceifmnnejlkfaaDoor
open Go.RowKit Go.Joins Go.Sort
def In64 (n : Int) : Prop := -9223372036854775808 ≤ n ∧ n ≤ 9223372036854775807
theorem dig_toNat {d : Nat} (h : d < 10) : (UInt8.ofNat (48 + d)).toNat = 48 + d := by
  rw [UInt8.toNat_ofNat']; omega
theorem data_inj {s t : ByteArray} (h : s.data.toList = t.data.toList) : s = t := by
  apply bytes_toList_inj
  rw [ByteArray.toList_eq, ByteArray.toList_eq]; exact h
theorem conv_one (W : World) (z : Int) (c : UInt8) (h : z = (c.toNat : Int)) : (convert 41 9 (.slice (some ⟨W.heap.size, 0, none⟩) 1 1)).run Tryd.prog (W.alloc (.cells #[.int .u8 z] 5)) = .ok (.string ⟨#[c]⟩) (W.alloc (.cells #[.int .u8 z] 5)) := by
  refine run_convert_bytes_back (W.alloc (.cells #[.int .u8 z] 5)) 41 9 5 ⟨W.heap.size, 0, none⟩ 1 [c] Tryd.underlying41 Tryd.underlying5 Tryd.underlying9 ?_
  intro j hj
  have h0 : j = 0 := by simp at hj; omega
  subst h0
  rw [h]
  exact alloc_cell W _ 5
theorem join_one (c : UInt8) (l : List UInt8) : (⟨#[c]⟩ : ByteArray) ++ ⟨l.toArray⟩ = ⟨(c :: l).toArray⟩ := by
  apply data_inj
  simp [ByteArray.data_append]
def digC (d : Nat) : UInt8 := UInt8.ofNat (48 + d)
theorem digC_toNat {d : Nat} (h : d < 10) : (digC d).toNat = 48 + d := dig_toNat h
theorem dec_step {u : Nat} (h : ¬ u < 10) : Lib.decDigits u = Lib.decDigits (u / 10) ++ [digC (u % 10)] := by
  rw [Lib.decDigits, dif_neg h]; rfl
theorem dec_len {n : Int} (h : In64 n) : (Lib.decDigits n.natAbs).length ≤ 21 := by
  have h1 := Lib.itoa_length_le n h.1 h.2
  unfold Lib.itoa at h1
  split at h1
  · simp at h1; omega
  · have : n.toNat = n.natAbs := by omega
    rwa [this] at h1
set_option maxHeartbeats 400000 in
set_option maxRecDepth 100000 in
theorem digits_any {n : Int} {w : World} (hn : In64 n) :
    Calls Tryd.prog 15 #[.int .i64 n] w fun e w' => e = .returned (.string ⟨(Lib.itoa n).toArray⟩) ∧ Below w.heap.size w w' := by
  have HLen := hid (dec_len hn)
  obtain ⟨hn1, hn2⟩ := hn
  go_enter Tryd.func15, Tryd.ntmps15
  go_wp2
  go_loopw [3, 4] (fun v i wr => ∃ (low : Int) (suf : List UInt8), -9223372036854775808 ≤ low ∧ low ≤ 9223372036854775807 ∧ (n < 0 → low ≤ 0) ∧ (0 ≤ n → 0 ≤ low) ∧ i = .int .i64 low ∧ v = .string ⟨suf.toArray⟩ ∧ Hid (Lib.decDigits n.natAbs = Lib.decDigits low.natAbs ++ suf) ∧ Hid (Below w.heap.size w wr))
    (fun _ i _ => (intOf i).natAbs)
  case atStart => exact ⟨n, [], hn1, hn2, fun h => by omega, fun h => h, rfl, rfl, by show _ = _; simp, Below.refl _ _⟩
  case round =>
    obtain ⟨low, suf, hl1, hl2, hs1, hs2, rfl, rfl, HD, HB⟩ := hrel
    have HS1 := hid hs1
    have HS2 := hid hs2
    clear hs1 hs2
    have hsl : suf.length ≤ 21 := by
      have h := HLen.out; rw [HD.out, List.length_append] at h; omega
    by_cases hp : 9 < low
    · have hcv := conv_one wr (48 + low % 10) (digC (low.natAbs % 10)) (by rw [digC_toNat (by omega)]; omega)
      go_wp2
      go_roundw
      case rel =>
        refine ⟨low / 10, digC (low.natAbs % 10) :: suf, by omega, by omega, ?_, ?_, rfl, ?_, ?_, HB.out.alloc HB.out.size _⟩
        · intro h; have := HS1.out h; omega
        · intro h; omega
        · rw [join_one]
        · show _ = _
          rw [HD.out, dec_step (u := low.natAbs) (by omega), show (low / 10).natAbs = low.natAbs / 10 by omega]; simp
      case measure => simp [intOf]; omega
    · by_cases hq : low < -9
      · obtain ⟨t, ht⟩ : ∃ t, low.tmod 10 = t := ⟨_, rfl⟩
        obtain ⟨q, hqq⟩ : ∃ q, low.tdiv 10 = q := ⟨_, rfl⟩
        have ht0 : t = -((low.natAbs % 10 : Nat) : Int) := by
          rw [← ht]; have := Int.tmod_eq_emod_of_nonneg (a := -low) (b := 10) (by omega)
          have h2 := Int.neg_tmod low 10
          omega
        have hq0 : q = -((low.natAbs / 10 : Nat) : Int) := by
          rw [← hqq]
          have h2 := Int.neg_tdiv low 10
          have := Int.tdiv_eq_ediv_of_nonneg (a := -low) (b := 10) (by omega)
          omega
        have HT0 := hid ht0
        have HQ0 := hid hq0
        have ht1 : -9 ≤ t := by omega
        have ht2 : t ≤ 0 := by omega
        have hq1 : -9223372036854775808 ≤ q := by omega
        have hq2 : q ≤ 0 := by omega
        have hq3 : q.natAbs < low.natAbs := by omega
        clear ht0 hq0
        by_cases h0 : t < 0
        · have hcv := conv_one wr (48 + -t) (digC (low.natAbs % 10)) (by rw [digC_toNat (by omega)]; have := HT0.out; omega)
          go_wp2
          go_roundw
          case rel =>
            refine ⟨q, digC (low.natAbs % 10) :: suf, hq1, by omega, fun _ => hq2, ?_, rfl, ?_, ?_, HB.out.alloc HB.out.size _⟩
            · intro h; have := HS2.out h; omega
            · rw [join_one]
            · show _ = _
              have hn3 : q.natAbs = low.natAbs / 10 := by have := HQ0.out; omega
              rw [HD.out, dec_step (u := low.natAbs) (by omega), hn3]; simp
          case measure => simp [intOf]; omega
        · have hcv := conv_one wr (48 + t) (digC (low.natAbs % 10)) (by rw [digC_toNat (by omega)]; have := HT0.out; omega)
          go_wp2
          go_roundw
          case rel =>
            refine ⟨q, digC (low.natAbs % 10) :: suf, hq1, by omega, fun _ => hq2, ?_, rfl, ?_, ?_, HB.out.alloc HB.out.size _⟩
            · intro h; have := HS2.out h; omega
            · rw [join_one]
            · show _ = _
              have hn3 : q.natAbs = low.natAbs / 10 := by have := HQ0.out; omega
              rw [HD.out, dec_step (u := low.natAbs) (by omega), hn3]; simp
          case measure => simp [intOf]; omega
      · have HD2 := hid (show Lib.decDigits n.natAbs = digC low.natAbs :: suf by
          rw [HD.out, Lib.decDigits, dif_pos (by omega)]; rfl)
        by_cases hz : low < 0
        · have hneg : n < 0 := by
            apply Classical.byContradiction
            intro h; have := HS2.out (by omega); omega
          have hcv := conv_one wr (48 + -low) (digC low.natAbs) (by rw [digC_toNat (by omega)]; omega)
          have HI := hid (show Lib.itoa n = 45 :: digC low.natAbs :: suf by unfold Lib.itoa; rw [if_pos hneg, HD2.out])
          go_wp2
          go_ret
          refine ⟨?_, HB.out.alloc HB.out.size _⟩
          rw [HI.out, join_one, join_one]; rfl
        · have hcv := conv_one wr (48 + low) (digC low.natAbs) (by rw [digC_toNat (by omega)]; omega)
          by_cases hneg : n < 0
          · have HI := hid (show Lib.itoa n = 45 :: digC low.natAbs :: suf by unfold Lib.itoa; rw [if_pos hneg, HD2.out])
            go_wp2
            go_ret
            refine ⟨?_, HB.out.alloc HB.out.size _⟩
            rw [HI.out, join_one, join_one]; rfl
          · have HI := hid (show Lib.itoa n = digC low.natAbs :: suf by
              unfold Lib.itoa; rw [if_neg hneg, show n.toNat = n.natAbs by omega, HD2.out])
            go_wp2
            go_ret
            refine ⟨?_, HB.out.alloc HB.out.size _⟩
            rw [HI.out, join_one]; rfl
end Go.Proofs.YtceifmnnejlkfaaDoor
