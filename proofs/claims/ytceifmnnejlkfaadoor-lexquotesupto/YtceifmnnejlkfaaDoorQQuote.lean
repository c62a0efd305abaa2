/-
  What Quote returns, and the reference's.
-/
import Derived.Test.YtceifmnnejlkfaaDoorQQuoteM
namespace Go.Proofs.YtceifmnnejlkfaaDoor
open Go.RowKit Go.Joins
theorem make_b (n : Nat) (hn : (n : Int) ≤ 140737488355328) (u : World) : (Instr.makeSlice 41 (.int .i64 0) (.int .i64 (n : Int))).run Tryd.prog u = .ok (.slice (some ⟨u.heap.size, 0, none⟩) 0 n) (u.alloc (.cells (madeCells #[.int .u8 0] n) 5)) := by
  obtain ⟨i0, hi, hz0, hz1, hz2⟩ := info_parts Tryd.info5
  have h := run_make (P := Tryd.prog) u 41 5 i0 (.int .u8 0) Tryd.underlying41 hi hz0 .i64 .i64 0 (n : Int) (by omega) (by omega) (by rw [hz2]; omega) (by omega)
  have e : ((n : Int)).toNat = n := by omega
  rw [e] at h
  simpa [hz1, Value.cells] using h
theorem made_row (w : World) (n : Nat) (hn : (n : Int) ≤ 140737488355328) : (w.alloc (.cells (madeCells #[.int .u8 0] n) 5)).ownsRow w.heap.size 5 1 (.slice (some ⟨w.heap.size, 0, none⟩) 0 n) 0 (bytesV []) :=
  World.ownsRow_made w _ n (Nat.le_refl _) (by unfold maxLen; omega) (by simp [madeCells])
theorem alloc_cell2 (w : World) (o : Obj) (x : Value) (t : TypeId) : ((w.alloc o).alloc (.cells #[x] t)).cell? ⟨w.heap.size + 1, 0, none⟩ = some x := by
  have h := alloc_cell (w.alloc o) x t
  rw [World.size_alloc] at h
  exact h
theorem quoted_is (l : List UInt8) : 34 :: esc (l.take l.length) ++ [34] = quoted l := by rw [List.take_length]; rfl
set_option maxRecDepth 100000 in
set_option maxHeartbeats 1000000 in
theorem quote_any (l : List UInt8) (hl : (l.length : Int) ≤ 1048576) (w : World) : Calls Tryd.prog 13 #[.string (St l)] w fun e w' => e = .returned (.string (St (quoted l))) ∧ Below w.heap.size w w' := by
  have hsz := St_size l
  have hmk := make_b (l.length + 2) (by omega)
  simp only [Int.natCast_add, show ((2 : Nat) : Int) = 2 from rfl] at hmk
  have HM := hid (made_row w (l.length + 2) (by omega))
  have HB0 := hid ((Below.refl w.heap.size w).alloc (Nat.le_refl _) (.cells (madeCells #[.int .u8 0] (l.length + 2)) 5))
  generalize madeCells #[Value.int .u8 0] (l.length + 2) = mc at *
  go_enter Tryd.func13, Tryd.ntmps13
  go_wp2_with (at_builtin; refine app2 rfl _ _ rfl rfl (HM.out.alloc _) rfl (alloc_cell2 _ _ _ _) rfl (by omega) (by have := HB0.out.size; simp at this ⊢; omega) ?_; intro v0 w0 ho0 hb0; have HO0 := hid ho0; have HBz := hid ((HB0.out.alloc (by simp) _).trans hb0); clear ho0 hb0)
  go_loopw [3, 14] (fun v i wr => ∃ (k : Nat) (acc : List UInt8), (k : Int) ≤ l.length ∧ i = .int .i64 k ∧ acc.length ≤ 2 * k + 1 ∧ Hid (acc = 34 :: esc (l.take k)) ∧ Hid (wr.ownsRow w.heap.size 5 1 v acc.length (bytesV acc)) ∧ Hid (Below w.heap.size w wr)) (fun _ i _ => l.length - (intOf i).toNat)
  case atStart => exact ⟨0, [34], by omega, rfl, by simp, rfl, HO0.out, HBz.out⟩
  case round =>
    obtain ⟨k, acc, hk, rfl, hal, HL, HO, HB⟩ := hrel
    clear HM HB0 HO0 HBz hmk
    have hsz9 : w.heap.size ≤ wr.heap.size := HB.out.size
    by_cases hlt : k < l.length
    · have hi := idx l k hlt
      have hkI : (k : Int) < l.length := by omega
      have HS := hid (esc_step hlt)
      generalize l[k] = c at *
      cases hn : nSl c with
      | true =>
        have HE := hid (show escC c = [92, c] by unfold escC; rw [if_pos hn])
        have M1 : Hid True := hid trivial
        go_wp2_with (first
          | (go_at_call 20; refine (nSl_any _ _).mono ?_; rintro e w5 ⟨rfl, hw5⟩; replace hw5 := hw5.symm; subst hw5; rw [hn])
          | (at_builtin; clear M1; refine app2 rfl _ _ rfl rfl (HO.out.alloc _) rfl (alloc_cell _ _ _) rfl (by omega) (by go_size) ?_; intro v1 w1 ho1 hb1; have hsz1 : w.heap.size ≤ w1.heap.size := (by have := hb1.size; simp at this; omega); have HO1 := hid ho1; have HB1 := hid ((HB.out.alloc hsz9 _).trans hb1); clear ho1 hb1)
          | (at_builtin; refine app2 rfl _ _ rfl rfl (HO1.out.alloc _) rfl (alloc_cell _ _ _) rfl (by omega) (by go_size) ?_; intro v2 w2 ho2 hb2; have HO2 := hid ho2; have HB2 := hid ((HB1.out.alloc hsz1 _).trans hb2); clear ho2 hb2))
        go_roundw
        case rel =>
          refine ⟨k + 1, acc ++ [92, c], by omega, by go_num, by simp; omega, ?_, own_cast HO2.out (by simp) (by simp [bytesV]), HB2.out⟩
          show _ = _; rw [HS.out, HE.out, HL.out]; simp
        case measure => simp [intOf]; omega
      | false =>
        have HE := hid (show escC c = [c] by unfold escC; rw [if_neg (by simp [hn])])
        go_wp2_with (first
          | (go_at_call 20; refine (nSl_any _ _).mono ?_; rintro e w5 ⟨rfl, hw5⟩; replace hw5 := hw5.symm; subst hw5; rw [hn])
          | (at_builtin; refine app2 rfl _ _ rfl rfl (HO.out.alloc _) rfl (alloc_cell _ _ _) rfl (by omega) (by go_size) ?_; intro v1 w1 ho1 hb1; have hsz1 : w.heap.size ≤ w1.heap.size := (by have := hb1.size; simp at this; omega); have HO1 := hid ho1; have HB1 := hid ((HB.out.alloc hsz9 _).trans hb1); clear ho1 hb1))
        go_roundw
        case rel =>
          refine ⟨k + 1, acc ++ [c], by omega, by go_num, by simp; omega, ?_, own_cast HO1.out (by simp) (by simp [bytesV]), HB1.out⟩
          show _ = _; rw [HS.out, HE.out, HL.out]; simp
        case measure => simp [intOf]; omega
    · have hkl : k = l.length := by omega
      subst hkl
      go_wp2_with (at_builtin; refine app2 rfl _ _ rfl rfl (HO.out.alloc _) rfl (alloc_cell _ _ _) rfl (by omega) (by go_size) ?_; intro v1 w1 ho1 hb1; have hcv := conv_own' (l := acc ++ [34]) (own_cast ho1 rfl (by simp [bytesV])) (by simp); have HB1 := hid ((HB.out.alloc hsz9 _).trans hb1); clear ho1 hb1)
      go_ret
      exact ⟨by rw [← quoted_is, ← HL.out]; rfl, HB1.out⟩
set_option maxRecDepth 100000 in
set_option maxHeartbeats 1000000 in
theorem rquote_any (l : List UInt8) (hl : (l.length : Int) ≤ 1048576) (w : World) : Calls Tryd.prog 14 #[.string (St l)] w fun e w' => e = .returned (.string (St (quoted l))) ∧ Below w.heap.size w w' := by
  have hsz := St_size l
  go_enter Tryd.func14, Tryd.ntmps14
  go_wp2_with fail
  go_loopw [3, 4] (fun v i wr => ∃ (k : Nat) (acc : List UInt8), (k : Int) ≤ l.length ∧ i = .int .i64 k ∧ acc.length ≤ 2 * k + 1 ∧ Hid (acc = 34 :: esc (l.take k)) ∧ Hid (wr.ownsRow w.heap.size 5 1 v acc.length (bytesV acc)) ∧ Hid (Below w.heap.size w wr)) (fun _ i _ => l.length - (intOf i).toNat)
  case atStart => exact ⟨0, [34], by omega, rfl, by simp, rfl, World.ownsRow_lit w #[.int .u8 34] 1 (Nat.le_refl _) (by decide) rfl, (Below.refl _ _).alloc (Nat.le_refl _) _⟩
  case round =>
    obtain ⟨k, acc, hk, rfl, hal, HL, HO, HB⟩ := hrel
    have hsz9 : w.heap.size ≤ wr.heap.size := HB.out.size
    by_cases hlt : k < l.length
    · have hi := idx l k hlt
      have hkI : (k : Int) < l.length := by omega
      have HS := hid (esc_step hlt)
      generalize l[k] = c at *
      by_cases h34 : c.toNat = 34
      · have b34 : ((c.toNat : Int) == 34) = true := beq_iff_eq.2 (by omega)
        have HE := hid (show escC c = [92, c] by unfold escC; rw [if_pos (by simp [nSl, h34])])
        have M1 : Hid True := hid trivial
        clear h34
        go_wp2_with (first
          | (at_builtin; clear M1; refine app2 rfl _ _ rfl rfl (HO.out.alloc _) rfl (alloc_cell _ _ _) rfl (by omega) (by go_size) ?_; intro v1 w1 ho1 hb1; have hsz1 : w.heap.size ≤ w1.heap.size := (by have := hb1.size; simp at this; omega); have HO1 := hid ho1; have HB1 := hid ((HB.out.alloc hsz9 _).trans hb1); clear ho1 hb1)
          | (at_builtin; refine app2 rfl _ _ rfl rfl (HO1.out.alloc _) rfl (alloc_cell _ _ _) rfl (by omega) (by go_size) ?_; intro v2 w2 ho2 hb2; have HO2 := hid ho2; have HB2 := hid ((HB1.out.alloc hsz1 _).trans hb2); clear ho2 hb2))
        go_roundw
        case rel =>
          refine ⟨k + 1, acc ++ [92, c], by omega, by go_num, by simp; omega, ?_, own_cast HO2.out (by simp) (by simp [bytesV]), HB2.out⟩
          show _ = _; rw [HS.out, HE.out, HL.out]; simp
        case measure => simp [intOf]; omega
      · have b34 : ((c.toNat : Int) == 34) = false := beq_eq_false_iff_ne.2 (by omega)
        have n34 : ¬ (c.toNat : Int) = 34 := by omega
        by_cases h92 : c.toNat = 92
        · have b92 : ((c.toNat : Int) == 92) = true := beq_iff_eq.2 (by omega)
          have HE := hid (show escC c = [92, c] by unfold escC; rw [if_pos (by simp [nSl, h92])])
          have M1 : Hid True := hid trivial
          clear h34 h92
          go_wp2_with (first
            | (at_builtin; clear M1; refine app2 rfl _ _ rfl rfl (HO.out.alloc _) rfl (alloc_cell _ _ _) rfl (by omega) (by go_size) ?_; intro v1 w1 ho1 hb1; have hsz1 : w.heap.size ≤ w1.heap.size := (by have := hb1.size; simp at this; omega); have HO1 := hid ho1; have HB1 := hid ((HB.out.alloc hsz9 _).trans hb1); clear ho1 hb1)
            | (at_builtin; refine app2 rfl _ _ rfl rfl (HO1.out.alloc _) rfl (alloc_cell _ _ _) rfl (by omega) (by go_size) ?_; intro v2 w2 ho2 hb2; have HO2 := hid ho2; have HB2 := hid ((HB1.out.alloc hsz1 _).trans hb2); clear ho2 hb2))
          go_roundw
          case rel =>
            refine ⟨k + 1, acc ++ [92, c], by omega, by go_num, by simp; omega, ?_, own_cast HO2.out (by simp) (by simp [bytesV]), HB2.out⟩
            show _ = _; rw [HS.out, HE.out, HL.out]; simp
          case measure => simp [intOf]; omega
        · have b92 : ((c.toNat : Int) == 92) = false := beq_eq_false_iff_ne.2 (by omega)
          have n92 : ¬ (c.toNat : Int) = 92 := by omega
          have HE := hid (show escC c = [c] by unfold escC; rw [if_neg (by simp [nSl, h34, h92])])
          clear h34 h92
          go_wp2_with (at_builtin; refine app2 rfl _ _ rfl rfl (HO.out.alloc _) rfl (alloc_cell _ _ _) rfl (by omega) (by go_size) ?_; intro v1 w1 ho1 hb1; have hsz1 : w.heap.size ≤ w1.heap.size := (by have := hb1.size; simp at this; omega); have HO1 := hid ho1; have HB1 := hid ((HB.out.alloc hsz9 _).trans hb1); clear ho1 hb1)
          go_roundw
          case rel =>
            refine ⟨k + 1, acc ++ [c], by omega, by go_num, by simp; omega, ?_, own_cast HO1.out (by simp) (by simp [bytesV]), HB1.out⟩
            show _ = _; rw [HS.out, HE.out, HL.out]; simp
          case measure => simp [intOf]; omega
    · have hkl : k = l.length := by omega
      subst hkl
      go_wp2_with (at_builtin; refine app2 rfl _ _ rfl rfl (HO.out.alloc _) rfl (alloc_cell _ _ _) rfl (by omega) (by go_size) ?_; intro v1 w1 ho1 hb1; have hcv := conv_own' (l := acc ++ [34]) (own_cast ho1 rfl (by simp [bytesV])) (by simp); have HB1 := hid ((HB.out.alloc hsz9 _).trans hb1); clear ho1 hb1)
      go_ret
      exact ⟨by rw [← quoted_is, ← HL.out]; rfl, HB1.out⟩
end Go.Proofs.YtceifmnnejlkfaaDoor
