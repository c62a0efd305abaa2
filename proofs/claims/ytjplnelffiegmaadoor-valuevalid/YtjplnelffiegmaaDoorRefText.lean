/-
  What the reference's Text returns, for every value: what the program's does.
-/
import Derived.Test.YtjplnelffiegmaaDoorRefDigits
import Derived.Test.YtjplnelffiegmaaDoorRefAdd
namespace Go.Proofs.YtjplnelffiegmaaDoor
open Go.RowKit Go.Joins Go.Sort
theorem digits_is {n : Int} {w : World} (D : ByteArray) (hD : (⟨(Lib.itoa n).toArray⟩ : ByteArray) = D) (hn : In64 n) :
    Calls Tryd.prog 30 #[.int .i64 n] w fun e w' => e = .returned (.string D) ∧ Below w.heap.size w w' := by
  rw [← hD]; exact digits_any hn
theorem join_lists (l m : List UInt8) : (⟨l.toArray⟩ : ByteArray) ++ ⟨m.toArray⟩ = ⟨(l ++ m).toArray⟩ := by
  apply data_inj
  simp [ByteArray.data_append]
theorem size_list (l : List UInt8) : (⟨l.toArray⟩ : ByteArray).size = l.length := by simp [ByteArray.size]
set_option maxHeartbeats 1000000 in
set_option maxRecDepth 100000 in
theorem rtext_bad {k : Int} {n : Int} {s : ByteArray} {a0 a1 a2 a3 a4 a5 a6 a7 : Int} {w : World} (hv : validB k n s a0 a1 a2 a3 a4 a5 a6 a7 = false) :
    Calls Tryd.prog 13 #[V k n s a0 a1 a2 a3 a4 a5 a6 a7] w fun e w' => e = .returned (.string ⟨#[]⟩) ∧ Below w.heap.size w w' := by
  have HV := hid hv
  clear hv
  go_enter Tryd.func13, Tryd.ntmps13
  go_wp2_with fail
  have HB := hid (show Below w.heap.size w (w.alloc (.cells (cellsOf k n s a0 a1 a2 a3 a4 a5 a6 a7) 24 (0, 0))) from by go_grown)
  have K0 : Hid ((w.alloc (.cells (cellsOf k n s a0 a1 a2 a3 a4 a5 a6 a7) 24 (0, 0))).heap[w.heap.size]? = some (.cells (cellsOf k n s a0 a1 a2 a3 a4 a5 a6 a7) 24 (0, 0))) := alloc_block w (.cells (cellsOf k n s a0 a1 a2 a3 a4 a5 a6 a7) 24 (0, 0))
  generalize (w.alloc (.cells (cellsOf k n s a0 a1 a2 a3 a4 a5 a6 a7) 24 (0, 0))) = W0 at *
  have c0 := fun o => block_cell K0.out o
  have l0 := lt_of_block K0.out
  refine (rvalid_is false HV.out).mono ?_
  rintro e w1 ⟨rfl, hb⟩
  clear c0 l0
  replace K0 := hid (block_on K0.out hb)
  replace HB := hid (below_on HB.out hb)
  clear hb
  have c0 := fun o => block_cell K0.out o
  have l0 := lt_of_block K0.out
  go_wp2_with fail
  go_ret
  exact ⟨rfl, HB.out⟩
set_option maxHeartbeats 1000000 in
set_option maxRecDepth 100000 in
theorem rtext_int {n : Int} {s : ByteArray} {a0 a1 a2 a3 a4 a5 a6 a7 : Int} {w : World} (hv : validB 1 n s a0 a1 a2 a3 a4 a5 a6 a7 = true) (hn : In64 n) :
    Calls Tryd.prog 13 #[V 1 n s a0 a1 a2 a3 a4 a5 a6 a7] w fun e w' => e = .returned (.string ⟨(Lib.itoa n).toArray⟩) ∧ Below w.heap.size w w' := by
  have HV := hid hv
  have HN := hid hn
  clear hv hn
  go_enter Tryd.func13, Tryd.ntmps13
  go_wp2_with fail
  have HB := hid (show Below w.heap.size w (w.alloc (.cells (cellsOf 1 n s a0 a1 a2 a3 a4 a5 a6 a7) 24 (0, 0))) from by go_grown)
  have K0 : Hid ((w.alloc (.cells (cellsOf 1 n s a0 a1 a2 a3 a4 a5 a6 a7) 24 (0, 0))).heap[w.heap.size]? = some (.cells (cellsOf 1 n s a0 a1 a2 a3 a4 a5 a6 a7) 24 (0, 0))) := alloc_block w (.cells (cellsOf 1 n s a0 a1 a2 a3 a4 a5 a6 a7) 24 (0, 0))
  generalize (w.alloc (.cells (cellsOf 1 n s a0 a1 a2 a3 a4 a5 a6 a7) 24 (0, 0))) = W0 at *
  have c0 := fun o => block_cell K0.out o
  have l0 := lt_of_block K0.out
  refine (rvalid_is true HV.out).mono ?_
  rintro e w1 ⟨rfl, hb⟩
  clear c0 l0
  replace K0 := hid (block_on K0.out hb)
  replace HB := hid (below_on HB.out hb)
  clear hb
  have c0 := fun o => block_cell K0.out o
  have l0 := lt_of_block K0.out
  go_wp2_with fail
  refine (digits_any HN.out).mono ?_
  rintro e w2 ⟨rfl, hb⟩
  clear c0 l0
  replace K0 := hid (block_on K0.out hb)
  replace HB := hid (below_on HB.out hb)
  clear hb
  have c0 := fun o => block_cell K0.out o
  have l0 := lt_of_block K0.out
  go_wp2_with fail
  go_ret
  exact ⟨rfl, HB.out⟩
set_option maxHeartbeats 1000000 in
set_option maxRecDepth 100000 in
theorem rtext_bool {n : Int} {s : ByteArray} {a0 a1 a2 a3 a4 a5 a6 a7 : Int} {w : World} (hv : validB 3 n s a0 a1 a2 a3 a4 a5 a6 a7 = true) :
    Calls Tryd.prog 13 #[V 3 n s a0 a1 a2 a3 a4 a5 a6 a7] w fun e w' => e = .returned (.string ⟨(Lib.formatBool (n == 1)).toArray⟩) ∧ Below w.heap.size w w' := by
  have HV := hid hv
  clear hv
  cases hb1 : n == 1
  all_goals
    go_enter Tryd.func13, Tryd.ntmps13
    go_wp2_with fail
    have HB := hid (show Below w.heap.size w (w.alloc (.cells (cellsOf 3 n s a0 a1 a2 a3 a4 a5 a6 a7) 24 (0, 0))) from by go_grown)
    have K0 : Hid ((w.alloc (.cells (cellsOf 3 n s a0 a1 a2 a3 a4 a5 a6 a7) 24 (0, 0))).heap[w.heap.size]? = some (.cells (cellsOf 3 n s a0 a1 a2 a3 a4 a5 a6 a7) 24 (0, 0))) := alloc_block w (.cells (cellsOf 3 n s a0 a1 a2 a3 a4 a5 a6 a7) 24 (0, 0))
    generalize (w.alloc (.cells (cellsOf 3 n s a0 a1 a2 a3 a4 a5 a6 a7) 24 (0, 0))) = W0 at *
    have c0 := fun o => block_cell K0.out o
    have l0 := lt_of_block K0.out
    refine (rvalid_is true HV.out).mono ?_
    rintro e w1 ⟨rfl, hb⟩
    clear c0 l0
    replace K0 := hid (block_on K0.out hb)
    replace HB := hid (below_on HB.out hb)
    clear hb
    have c0 := fun o => block_cell K0.out o
    have l0 := lt_of_block K0.out
    go_wp2_with fail
    go_ret
    exact ⟨rfl, HB.out⟩
set_option maxHeartbeats 1000000 in
set_option maxRecDepth 100000 in
theorem rtext_hist {n : Int} {s : ByteArray} {a0 a1 a2 a3 a4 a5 a6 a7 : Int} {w : World} (hv : validB 4 n s a0 a1 a2 a3 a4 a5 a6 a7 = true) (hok : ∀ i, i < 8 → In64 (nth8 a0 a1 a2 a3 a4 a5 a6 a7 i)) :
    Calls Tryd.prog 13 #[V 4 n s a0 a1 a2 a3 a4 a5 a6 a7] w fun e w' => e = .returned (.string ⟨(txtTo (nth8 a0 a1 a2 a3 a4 a5 a6 a7) 8 ++ [93]).toArray⟩) ∧ Below w.heap.size w w' := by
  have HV := hid hv
  obtain ⟨x, hx⟩ : ∃ x, nth8 a0 a1 a2 a3 a4 a5 a6 a7 = x := ⟨_, rfl⟩
  rw [hx] at hok ⊢
  have HX := hid hx
  have HOK := hid hok
  clear hv hok hx
  go_enter Tryd.func13, Tryd.ntmps13
  go_wp2_with fail
  have HB := hid (show Below w.heap.size w (w.alloc (.cells (cellsOf 4 n s a0 a1 a2 a3 a4 a5 a6 a7) 24 (0, 0))) from by go_grown)
  have K0 : Hid ((w.alloc (.cells (cellsOf 4 n s a0 a1 a2 a3 a4 a5 a6 a7) 24 (0, 0))).heap[w.heap.size]? = some (.cells (cellsOf 4 n s a0 a1 a2 a3 a4 a5 a6 a7) 24 (0, 0))) := alloc_block w (.cells (cellsOf 4 n s a0 a1 a2 a3 a4 a5 a6 a7) 24 (0, 0))
  generalize (w.alloc (.cells (cellsOf 4 n s a0 a1 a2 a3 a4 a5 a6 a7) 24 (0, 0))) = W0 at *
  have c0 := fun o => block_cell K0.out o
  have l0 := lt_of_block K0.out
  refine (rvalid_is true HV.out).mono ?_
  rintro e w1 ⟨rfl, hb⟩
  clear c0 l0
  replace K0 := hid (block_on K0.out hb)
  replace HB := hid (below_on HB.out hb)
  clear hb
  have c0 := fun o => block_cell K0.out o
  have l0 := lt_of_block K0.out
  go_wp2_with fail
  go_loopw [3, 4] (fun v i wr => ∃ (k : Nat) (T : ByteArray), k ≤ 8 ∧ i = .int .i64 k ∧ v = .string T ∧ T.size ≤ 1 + 22 * k ∧ Hid (T = ⟨(txtTo x k).toArray⟩) ∧ Hid (wr.heap[w.heap.size]? = some (.cells (cellsOf 4 n s a0 a1 a2 a3 a4 a5 a6 a7) 24 (0, 0))) ∧ Hid (Below w.heap.size w wr))
    (fun _ i _ => 8 - (intOf i).toNat)
  case atStart => exact ⟨0, ⟨#[91]⟩, by omega, rfl, rfl, by decide, rfl, K0.out, HB.out⟩
  case round =>
    obtain ⟨k, T, hk, rfl, rfl, hT, HTx, HA, HBel⟩ := hrel
    clear c0 l0
    by_cases hlt : k < 8
    · have cx : wr.cell? ⟨w.heap.size, 3 + k, none⟩ = some (.int .i64 (x k)) := by rw [← HX.out]; exact nth8_cell HA.out k hlt
      obtain ⟨D, hD⟩ : ∃ D, (⟨(Lib.itoa (x k)).toArray⟩ : ByteArray) = D := ⟨_, rfl⟩
      have hDs : D.size ≤ 21 := by rw [← hD, size_list]; exact Lib.itoa_length_le (x k) (HOK.out k hlt).1 (HOK.out k hlt).2
      have HD := hid hD
      clear hD
      by_cases h0 : k = 0
      · subst h0
        go_wp2_with fail
        refine (digits_is D HD.out (HOK.out 0 hlt)).mono ?_
        rintro e w2 ⟨rfl, hb2⟩
        have HA2 := hid (block_on HA.out hb2)
        have HB2 := hid (below_on HBel.out hb2)
        clear hb2 cx
        go_wp2
        go_roundw
        case rel =>
          refine ⟨1, T ++ D, by omega, by go_num, rfl, ?_, ?_, HA2.out, HB2.out⟩
          · rw [ByteArray.size_append]; omega
          · show _ = _; rw [HTx.out, ← HD.out, join_lists]; simp [txtTo, sep]
        case measure => simp [intOf]
      · have hpos : (0 : Int) < (k : Int) := by omega
        have HS := hid (show sep k = [32] by simp [sep, h0])
        clear h0
        go_wp2_with fail
        refine (digits_is D HD.out (HOK.out k hlt)).mono ?_
        rintro e w2 ⟨rfl, hb2⟩
        have HA2 := hid (block_on HA.out hb2)
        have HB2 := hid (below_on HBel.out hb2)
        clear hb2 cx
        go_wp2
        go_roundw
        case rel =>
          refine ⟨k + 1, (T ++ ⟨#[32]⟩) ++ D, by omega, by go_num, rfl, ?_, ?_, HA2.out, HB2.out⟩
          · rw [ByteArray.size_append, ByteArray.size_append, show (⟨#[32]⟩ : ByteArray).size = 1 from rfl]; omega
          · show _ = _; rw [HTx.out, ← HD.out, show (⟨#[32]⟩ : ByteArray) = ⟨([32] : List UInt8).toArray⟩ from rfl, join_lists, join_lists]; simp only [txtTo]; rw [HS.out]; simp
        case measure => simp [intOf]; omega
    · have h8 : k = 8 := by omega
      subst h8
      go_wp2
      go_ret
      refine ⟨?_, HBel.out⟩
      rw [HTx.out, show (⟨#[93]⟩ : ByteArray) = ⟨([93] : List UInt8).toArray⟩ from rfl, join_lists]; rfl
set_option maxHeartbeats 1000000 in
set_option maxRecDepth 100000 in
theorem rtext_str {n : Int} {s : ByteArray} {a0 a1 a2 a3 a4 a5 a6 a7 : Int} {w : World} (hv : validB 2 n s a0 a1 a2 a3 a4 a5 a6 a7 = true) :
    Calls Tryd.prog 13 #[V 2 n s a0 a1 a2 a3 a4 a5 a6 a7] w fun e w' => e = .returned (.string ⟨(34 :: (esc s.data.toList ++ [34])).toArray⟩) ∧ Below w.heap.size w w' := by
  have HV := hid hv
  have hs := valid_size hv
  clear hv
  go_enter Tryd.func13, Tryd.ntmps13
  go_wp2_with fail
  have HB := hid (show Below w.heap.size w (w.alloc (.cells (cellsOf 2 n s a0 a1 a2 a3 a4 a5 a6 a7) 24 (0, 0))) from by go_grown)
  have K0 : Hid ((w.alloc (.cells (cellsOf 2 n s a0 a1 a2 a3 a4 a5 a6 a7) 24 (0, 0))).heap[w.heap.size]? = some (.cells (cellsOf 2 n s a0 a1 a2 a3 a4 a5 a6 a7) 24 (0, 0))) := alloc_block w (.cells (cellsOf 2 n s a0 a1 a2 a3 a4 a5 a6 a7) 24 (0, 0))
  generalize (w.alloc (.cells (cellsOf 2 n s a0 a1 a2 a3 a4 a5 a6 a7) 24 (0, 0))) = W0 at *
  have c0 := fun o => block_cell K0.out o
  have l0 := lt_of_block K0.out
  refine (rvalid_is true HV.out).mono ?_
  rintro e w1 ⟨rfl, hb⟩
  clear c0 l0
  replace K0 := hid (block_on K0.out hb)
  replace HB := hid (below_on HB.out hb)
  clear hb
  have c0 := fun o => block_cell K0.out o
  have l0 := lt_of_block K0.out
  go_wp2_with fail
  clear c0
  go_loopw [5, 6] (fun v i wr => ∃ (k : Nat) (l : List UInt8), k ≤ s.size ∧ i = .int .i64 k ∧ l.length ≤ 2 * k + 1 ∧ Hid (l = 34 :: esc (s.data.toList.take k)) ∧ Hid (wr.ownsRow w1.heap.size 5 1 v l.length (bytesV l)) ∧ Hid (wr.heap[w.heap.size]? = some (.cells (cellsOf 2 n s a0 a1 a2 a3 a4 a5 a6 a7) 24 (0, 0))) ∧ Hid (Below w1.heap.size w1 wr))
    (fun _ i _ => s.size - (intOf i).toNat)
  case atStart =>
    refine ⟨0, [34], by omega, rfl, by simp, rfl, ?_, ?_, ?_⟩
    · exact World.ownsRow_lit w1 #[.int .u8 34] 1 (Nat.le_refl _) (by decide) rfl
    · exact block_on K0.out ((Below.refl _ _).alloc (Nat.le_refl _) _)
    · exact (Below.refl _ _).alloc (Nat.le_refl _) _
  case round =>
    obtain ⟨k, l, hk, rfl, hl, HL, HO, HA, HBel⟩ := hrel
    have hsz : w1.heap.size ≤ wr.heap.size := HBel.out.size
    have l1 := lt_of_block HA.out
    have cx := fun o => block_cell HA.out o
    by_cases hlt : k < s.size
    · by_cases hc : s[k] = 34 ∨ s[k] = 92
      · have HE : Hid (escC s[k] = [92, s[k]]) := by unfold Hid escC; rw [if_pos hc]
        have hh : ((s[k].toNat : Int) == 34) = true ∨ (((s[k].toNat : Int) == 34) = false ∧ ((s[k].toNat : Int) == 92) = true) := by
          rcases hc with hc | hc
          · left; rw [hc]; rfl
          · right; rw [hc]; exact ⟨rfl, rfl⟩
        clear hc
        rcases hh with h1 | ⟨h1, h2⟩
        all_goals
          go_wp2_with (first
            | (at_builtin; refine app1 rfl _ _ rfl rfl (HO.out.alloc _) rfl (alloc_cell _ _ _) rfl (by omega) (by go_size) ?_; intro v1 w2 ho1 hb1; have hsz1 : w1.heap.size ≤ w2.heap.size := (by have := hb1.size; simp at this; omega); have HBa := hid ((HBel.out.alloc (by go_size) _).trans hb1); have HAa := hid ((HBa.out.block w.heap.size l0).trans K0.out); have HO1 := hid ho1; clear ho1 hb1 cx; have l2 := lt_of_block HAa.out; have cx := fun o => block_cell HAa.out o)
            | (at_builtin; refine app1 rfl _ _ rfl rfl (HO1.out.alloc _) rfl (alloc_cell _ _ _) rfl (by omega) (by go_size) ?_; intro v2 w3 ho2 hb2; have HBb := hid ((HBa.out.alloc (by go_size) _).trans hb2); have HO2 := hid ho2; clear ho2 hb2))
          go_roundw
          case rel =>
            refine ⟨k + 1, l ++ [92, s[k]], by omega, by go_num, by simp; omega, ?_, own_cast HO2.out (by simp) (by simp [bytesV]), (HBb.out.block w.heap.size l0).trans K0.out, HBb.out⟩
            show _ = _; rw [esc_step hlt, HE.out, HL.out]; simp
          case measure => simp [intOf]; omega
      · have HE : Hid (escC s[k] = [s[k]]) := by unfold Hid escC; rw [if_neg hc]
        have h1 : ((s[k].toNat : Int) == 34) = false := by
          apply Bool.eq_false_iff.2; intro h; apply hc; left; apply UInt8.toNat_inj.1; have := beq_iff_eq.1 h; simp; omega
        have h2 : ((s[k].toNat : Int) == 92) = false := by
          apply Bool.eq_false_iff.2; intro h; apply hc; right; apply UInt8.toNat_inj.1; have := beq_iff_eq.1 h; simp; omega
        clear hc
        go_wp2_with (first
            | (at_builtin; refine app1 rfl _ _ rfl rfl (HO.out.alloc _) rfl (alloc_cell _ _ _) rfl (by omega) (by go_size) ?_; intro v1 w2 ho1 hb1; have HBa := hid ((HBel.out.alloc (by go_size) _).trans hb1); have HO1 := hid ho1; clear ho1 hb1))
        go_roundw
        case rel =>
          refine ⟨k + 1, l ++ [s[k]], by omega, by go_num, by simp; omega, ?_, own_cast HO1.out (by simp) (by simp [bytesV]), (HBa.out.block w.heap.size l0).trans K0.out, HBa.out⟩
          show _ = _; rw [esc_step hlt, HE.out, HL.out]; simp
        case measure => simp [intOf]; omega
    · have hks : k = s.size := by omega
      subst hks
      go_wp2_with (first
            | (at_builtin; refine app1 rfl _ _ rfl rfl (HO.out.alloc _) rfl (alloc_cell _ _ _) rfl (by omega) (by go_size) ?_; intro v1 w2 ho1 hb1; obtain ⟨g1, cap1, rfl⟩ := ownsRow_form ho1 (by omega); have hcv := conv_own (l := l ++ [34]) (own_cast ho1 rfl (by simp [bytesV])); have HBa := hid ((HBel.out.alloc (by go_size) _).trans hb1); clear ho1 hb1))
      go_ret
      refine ⟨?_, below_on HB.out HBa.out⟩
      rw [HL.out, show s.data.toList.take s.size = s.data.toList from List.take_of_length_le (by rw [Array.length_toList]; exact Nat.le_refl _)]; rfl
theorem rtext_valid {k n : Int} {s : ByteArray} {a0 a1 a2 a3 a4 a5 a6 a7 : Int} {w : World} (hv : validB k n s a0 a1 a2 a3 a4 a5 a6 a7 = true) (hn : In64 n) (hok : ∀ i, i < 8 → In64 (nth8 a0 a1 a2 a3 a4 a5 a6 a7 i)) :
    Calls Tryd.prog 13 #[V k n s a0 a1 a2 a3 a4 a5 a6 a7] w fun e w' => e = .returned (.string ⟨(textV k n s a0 a1 a2 a3 a4 a5 a6 a7).toArray⟩) ∧ Below w.heap.size w w' := by
  rcases valid_kind hv with rfl | rfl | rfl | rfl
  · exact rtext_int hv hn
  · exact rtext_str hv
  · exact rtext_bool hv
  · exact rtext_hist hv hok
end Go.Proofs.YtjplnelffiegmaaDoor
