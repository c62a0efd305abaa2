/-
  What value.bucketsText returns, for every eight buckets. Condition: the table of the powers of ten of Go's strconv is as it is laid.
-/
import Derived.Test.YtjplnelffiegmaaDoorShown
import Derived.Lib.ItoaLen
namespace Go.Proofs.YtjplnelffiegmaaDoor
open Go.RowKit Go.Joins Go.Sort

/- The text of eight numbers, up to the k-th. -/
def sep (k : Nat) : List UInt8 := if k = 0 then [] else [32]
def txtTo (x : Nat → Int) : Nat → List UInt8
  | 0 => [91]
  | k + 1 => txtTo x k ++ (sep k ++ Lib.itoa (x k))
def In64 (n : Int) : Prop := -9223372036854775808 ≤ n ∧ n ≤ 9223372036854775807
theorem txtTo_len {x : Nat → Int} (hx : ∀ i, i < 8 → In64 (x i)) (k : Nat) (hk : k ≤ 8) : (txtTo x k).length ≤ 1 + 22 * k := by
  induction k with
  | zero => simp [txtTo]
  | succ k ih =>
    have h1 := ih (by omega)
    have h2 := Lib.itoa_length_le (x k) (hx k (by omega)).1 (hx k (by omega)).2
    have h3 : (sep k).length ≤ 1 := by unfold sep; split <;> simp
    simp only [txtTo, List.length_append]
    omega
theorem index22 (a0 a1 a2 a3 a4 a5 a6 a7 : Int) (k : Nat) (hk : k < 8) (w : World) : (Instr.index 22 (H8 a0 a1 a2 a3 a4 a5 a6 a7) (.int .i64 k)).run Tryd.prog w = .ok (.int .i64 (nth8 a0 a1 a2 a3 a4 a5 a6 a7 k)) w := by
  have a3' := Tryd.isAgg3
  have z3 := Tryd.sizeOf3
  have u22 := Tryd.underlying22
  rcases lt8 hk with rfl | rfl | rfl | rfl | rfl | rfl | rfl | rfl <;> simp [Instr.index, go_sem, nth8]
theorem bytesV_append (l m : List UInt8) : bytesV l ++ Lib.byteCells m = bytesV (l ++ m) := by simp [bytesV, Lib.byteCells]
set_option maxHeartbeats 1000000 in
set_option maxRecDepth 100000 in
theorem bucketsText_any {a0 a1 a2 a3 a4 a5 a6 a7 : Int} {w : World} (hok : ∀ i, i < 8 → In64 (nth8 a0 a1 a2 a3 a4 a5 a6 a7 i)) (ht : Tab w) :
    Calls Tryd.prog 29 #[H8 a0 a1 a2 a3 a4 a5 a6 a7] w fun e w' => e = .returned (.string ⟨(txtTo (nth8 a0 a1 a2 a3 a4 a5 a6 a7) 8 ++ [93]).toArray⟩) ∧ Below w.heap.size w w' := by
  have HT := hid (Lib.tabBelow_of_tabIs ht)
  clear ht
  obtain ⟨x, hx⟩ : ∃ x, nth8 a0 a1 a2 a3 a4 a5 a6 a7 = x := ⟨_, rfl⟩
  have hix := index22 a0 a1 a2 a3 a4 a5 a6 a7
  rw [hx] at hok ⊢
  rw [hx] at hix
  have HOK := hid hok
  have HIX := hid hix
  clear hok hix hx
  go_enter Tryd.func29, Tryd.ntmps29
  go_wp2
  go_loopw [3, 8] (fun v i wr => ∃ (k : Nat) (l : List UInt8), k ≤ 8 ∧ i = .int .i64 k ∧ l.length ≤ 1 + 22 * k ∧ Hid (l = txtTo x k) ∧ Hid (wr.ownsRow w.heap.size 5 1 v l.length (bytesV l)) ∧ Hid (Below w.heap.size w wr))
    (fun _ i _ => 8 - (intOf i).toNat)
  case atStart =>
    refine ⟨0, [91], by omega, rfl, by simp, rfl, ?_, ?_⟩
    · have h := World.ownsRow_lit (base := w.heap.size) (e := 5) (size := 1) (w.alloc (.cells (#[.int .i64 a0, .int .i64 a1, .int .i64 a2, .int .i64 a3, .int .i64 a4, .int .i64 a5, .int .i64 a6, .int .i64 a7]) 22 (0, 0))) #[.int .u8 91] 1 (by simp) (by decide) rfl
      simp only [World.size_alloc] at h
      exact h
    · show Below _ _ _
      go_grown
  case round =>
    obtain ⟨k, l, hk, rfl, hl, HL, HO, HB⟩ := hrel
    have hsz : w.heap.size ≤ wr.heap.size := HB.out.size
    by_cases hlt : k < 8
    · have hi2 := HIX.out k hlt
      have HLen := hid (Lib.itoa_length_le (x k) (HOK.out k hlt).1 (HOK.out k hlt).2)
      by_cases h0 : k = 0
      · subst h0
        have hi3 : ∀ w, (Instr.index 22 (H8 a0 a1 a2 a3 a4 a5 a6 a7) (.int .i64 0)).run Tryd.prog w = .ok (.int .i64 (x 0)) w := hi2
        clear hi2
        go_wp2_with fail
        refine (Tryd.strconv_AppendInt_10 w.heap.size l.length (x 0) (HOK.out 0 hlt).1 (HOK.out 0 hlt).2 _ _ _ HO.out hsz (by omega) (HT.out.on HB.out)).mono ?_
        rintro e w2 ⟨v2, rfl, ho2, hb2, -⟩
        have HO2 := hid (own_cast ho2 rfl (bytesV_append _ _))
        have HB2 := hid hb2
        clear ho2 hb2
        go_wp2
        go_roundw
        case rel =>
          refine ⟨1, l ++ Lib.itoa (x 0), by omega, by go_num, ?_, ?_, own_cast HO2.out (by simp) rfl, HB.out.trans HB2.out⟩
          · have := HLen.out; simp only [List.length_append]; omega
          · show _ = _; rw [HL.out]; simp [txtTo, sep]
        case measure => simp [intOf]
      · have hpos : (0 : Int) < (k : Int) := by omega
        have HS := hid (show sep k = [32] by simp [sep, h0])
        clear h0
        go_wp2_with (first
            | (at_builtin; refine app1 rfl _ _ rfl rfl (HO.out.alloc _) rfl (alloc_cell _ _ _) rfl (by omega) (by go_size) ?_; intro v1 w1 ho1 hb1; have hsz1 : w.heap.size ≤ w1.heap.size := (by have := hb1.size; simp at this; omega); have HO1 := hid (own_cast ho1 rfl (bytesV_snoc l 32)); have HB1 := hid hb1; clear ho1 hb1))
        have HBa := hid ((HB.out.alloc (by go_size) _).trans HB1.out)
        refine (Tryd.strconv_AppendInt_10 w.heap.size (l.length + 1) (x k) (HOK.out k hlt).1 (HOK.out k hlt).2 _ _ _ HO1.out hsz1 (by omega) (HT.out.on HBa.out)).mono ?_
        rintro e w2 ⟨v2, rfl, ho2, hb2, -⟩
        have HO2 := hid (own_cast ho2 rfl (bytesV_append _ _))
        have HB2 := hid hb2
        clear ho2 hb2
        go_wp2
        go_roundw
        case rel =>
          refine ⟨k + 1, (l ++ [32]) ++ Lib.itoa (x k), by omega, by go_num, ?_, ?_, own_cast HO2.out (by simp only [List.length_append]; rfl) rfl, HBa.out.trans HB2.out⟩
          · have := HLen.out; simp only [List.length_append, List.length_cons, List.length_nil]; omega
          · show _ = _; rw [HL.out]; simp only [txtTo]; rw [HS.out]; simp
        case measure => simp [intOf]; omega
    · have h8 : k = 8 := by omega
      subst h8
      go_wp2_with (first
            | (at_builtin; refine app1 rfl _ _ rfl rfl (HO.out.alloc _) rfl (alloc_cell _ _ _) rfl (by omega) (by go_size) ?_; intro v1 w1 ho1 hb1; obtain ⟨g1, cap1, rfl⟩ := ownsRow_form ho1 (by omega); have hcv := conv_own (l := l ++ [93]) (own_cast ho1 rfl (by simp [bytesV])); have HB1 := hid hb1; clear ho1 hb1))
      go_ret
      refine ⟨?_, (HB.out.alloc (by go_size) _).trans HB1.out⟩
      rw [HL.out]; rfl
end Go.Proofs.YtjplnelffiegmaaDoor
