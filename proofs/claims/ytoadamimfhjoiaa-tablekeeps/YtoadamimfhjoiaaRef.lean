/-
  What the reference's Valid and Compare return, for every input: what the program's do.
-/
import Derived.Test.YtoadamimfhjoiaaKit
import Derived.Deep.Light
namespace Go.Proofs.Ytoadamimfhjoiaa
open Go.RowKit
theorem toList_nil (s : ByteArray) : s.toList = [] ↔ s = noText := by
  constructor
  · intro h; exact bytes_toList_inj (by rw [h, ByteArray.toList_eq]; rfl)
  · intro h; subst h; rw [ByteArray.toList_eq]; rfl
theorem toList_isEmpty (s : ByteArray) : s.toList.isEmpty = decide (s = noText) := by
  rw [Bool.eq_iff_iff]; simp [toList_nil]
theorem size_iff (s : ByteArray) : (s.size : Int) ≤ 64 ↔ s.size ≤ 64 := by omega
set_option maxHeartbeats 400000 in
theorem rvalid_any {k n : Int} {s : ByteArray} {a0 a1 a2 a3 a4 a5 a6 a7 : Int} {w : World} :
    Calls Try.prog 30 #[V k n s a0 a1 a2 a3 a4 a5 a6 a7] w fun e w' => e = .returned (.bool (validB k n s a0 a1 a2 a3 a4 a5 a6 a7)) ∧ Below w.heap.size w w' := by
  have he := @eql22
  generalize hr : validB k n s a0 a1 a2 a3 a4 a5 a6 a7 = r
  have HR := hid (show validB k n s a0 a1 a2 a3 a4 a5 a6 a7 = r from hr)
  clear hr
  by_cases h1 : k = 1
  · subst h1
    go_enter Try.func30, Try.ntmps30
    go_wp2
    all_goals
      go_ret
      refine ⟨ret_bool ?_, (Below.refl _ _).alloc (Nat.le_refl _) _⟩
      go_light
      rw [← HR.out]
      have ht := toList_nil s
      have hz := size_iff s
      simp_all [validB, zeroH]
  · by_cases h2 : k = 2
    · subst h2
      go_enter Try.func30, Try.ntmps30
      go_wp2
      all_goals
        go_ret
        refine ⟨ret_bool ?_, (Below.refl _ _).alloc (Nat.le_refl _) _⟩
        go_light
        rw [← HR.out]
        have ht := toList_nil s
        have hz := size_iff s
        simp_all [validB, zeroH]
    · by_cases h3 : k = 3
      · subst h3
        go_enter Try.func30, Try.ntmps30
        go_wp2
        all_goals
          go_ret
          refine ⟨ret_bool ?_, (Below.refl _ _).alloc (Nat.le_refl _) _⟩
          go_light
          rw [← HR.out]
          have ht := toList_nil s
          have hz := size_iff s
          simp_all [validB, zeroH]
      · by_cases h4 : k = 4
        · subst h4
          go_enter Try.func30, Try.ntmps30
          go_wp2
          all_goals
            go_ret
            refine ⟨ret_bool ?_, (Below.refl _ _).alloc (Nat.le_refl _) _⟩
            go_light
            rw [← HR.out]
            have ht := toList_nil s
            have hz := size_iff s
            have hi := toList_isEmpty s
            simp_all [validB]
        · have g1 : (k == 1) = false := by simpa using h1
          have g2 : (k == 2) = false := by simpa using h2
          have g3 : (k == 3) = false := by simpa using h3
          have g4 : (k == 4) = false := by simpa using h4
          have HR2 := hid (show validB k n s a0 a1 a2 a3 a4 a5 a6 a7 = false by simp [validB, h1, h2, h3, h4])
          clear h1 h2 h3 h4
          go_enter Try.func30, Try.ntmps30
          go_wp2
          go_ret
          exact ⟨ret_bool (by rw [← HR.out, HR2.out]), (Below.refl _ _).alloc (Nat.le_refl _) _⟩
theorem alloc_block2 (w : World) (x y : Obj) : ((w.alloc x).alloc y).heap[w.heap.size + 1]? = some y := by
  have h := alloc_block (w.alloc x) y
  rwa [World.size_alloc] at h
theorem wrap64_u8 (c : UInt8) : wrap64 (c.toNat : Int) = (c.toNat : Int) := by
  have := c.toNat_lt
  go_arith
set_option maxHeartbeats 400000 in
theorem order_any {a b : Int} {w : World} :
    Calls Try.prog 63 #[.int .i64 a, .int .i64 b] w fun e w' => e = .returned (.int .i64 (cmpI a b)) ∧ w' = w := by
  go_enter Try.func63, Try.ntmps63
  go_wp2
  all_goals
    go_ret
    refine ⟨ret_int ?_, rfl⟩
    unfold cmpI
    split <;> (try split) <;> omega
theorem nth8_cell {W : World} {b : Nat} {k n : Int} {s : ByteArray} {a0 a1 a2 a3 a4 a5 a6 a7 : Int} (h : W.heap[b]? = some (.cells #[.int .i64 k, .int .i64 n, .string s, .int .i64 a0, .int .i64 a1, .int .i64 a2, .int .i64 a3, .int .i64 a4, .int .i64 a5, .int .i64 a6, .int .i64 a7] 48 (0, 0))) (i : Nat) (hi : i < 8) : W.cell? ⟨b, 3 + i, none⟩ = some (.int .i64 (nth8 a0 a1 a2 a3 a4 a5 a6 a7 i)) := by
  rw [block_cell h]
  rcases lt8 hi with rfl | rfl | rfl | rfl | rfl | rfl | rfl | rfl <;> rfl
theorem cmpB_drop_eq {x y : ByteArray} {i : Nat} (hx : i < x.size) (hy : i < y.size) (h : x[i] = y[i]) : cmpB (x.data.toList.drop i) (y.data.toList.drop i) = cmpB (x.data.toList.drop (i + 1)) (y.data.toList.drop (i + 1)) := by
  rw [List.drop_eq_getElem_cons (i := i) (by simpa using hx), List.drop_eq_getElem_cons (i := i) (l := y.data.toList) (by simpa using hy)]
  have h' : x.data.toList[i]'(by simpa using hx) = y.data.toList[i]'(by simpa using hy) := h
  simp [cmpB, h']
theorem cmpB_drop_ne {x y : ByteArray} {i : Nat} (hx : i < x.size) (hy : i < y.size) (h : ¬ x[i] = y[i]) : cmpB (x.data.toList.drop i) (y.data.toList.drop i) = cmpI (x[i].toNat : Int) (y[i].toNat : Int) := by
  rw [List.drop_eq_getElem_cons (i := i) (by simpa using hx), List.drop_eq_getElem_cons (i := i) (l := y.data.toList) (by simpa using hy)]
  have e1 : x.data.toList[i]'(by simpa using hx) = x[i] := rfl
  have e2 : y.data.toList[i]'(by simpa using hy) = y[i] := rfl
  rw [e1, e2]
  generalize x[i] = a at *
  generalize y[i] = b at *
  simp only [cmpB, cmpI, UInt8.lt_iff_toNat_lt]
  have hne : a.toNat ≠ b.toNat := fun e => h (UInt8.toNat_inj.1 e)
  repeat' split
  all_goals omega
theorem cmpB_end {x y : ByteArray} {i : Nat} (h1 : i ≤ x.size) (h2 : i ≤ y.size) (h : ¬ (i < x.size ∧ i < y.size)) : cmpB (x.data.toList.drop i) (y.data.toList.drop i) = cmpI (x.size : Int) (y.size : Int) := by
  have lx : x.data.toList.length = x.size := Array.length_toList
  have ly : y.data.toList.length = y.size := Array.length_toList
  have dx : (x.data.toList.drop i).length = x.size - i := by rw [List.length_drop, lx]
  have dy : (y.data.toList.drop i).length = y.size - i := by rw [List.length_drop, ly]
  generalize x.data.toList.drop i = p at *
  generalize y.data.toList.drop i = q at *
  unfold cmpI
  cases p with
  | nil =>
    cases q with
    | nil => simp at dx dy; rw [if_neg (by omega), if_neg (by omega)]; rfl
    | cons b q => simp at dx dy; rw [if_pos (by omega)]; rfl
  | cons a p =>
    cases q with
    | nil => simp at dx dy; rw [if_neg (by omega), if_pos (by omega)]; rfl
    | cons b q => simp at dx dy; omega
set_option maxHeartbeats 1000000 in
theorem rcompare_any {k n : Int} {s : ByteArray} {a0 a1 a2 a3 a4 a5 a6 a7 : Int} {k' n' : Int} {s' : ByteArray} {b0 b1 b2 b3 b4 b5 b6 b7 : Int} {w : World} (hs : s.size ≤ maxLen) (hs' : s'.size ≤ maxLen) :
    Calls Try.prog 52 #[V k n s a0 a1 a2 a3 a4 a5 a6 a7, V k' n' s' b0 b1 b2 b3 b4 b5 b6 b7] w fun e w' => e = .returned (.int .i64 (cmpV k n s a0 a1 a2 a3 a4 a5 a6 a7 k' n' s' b0 b1 b2 b3 b4 b5 b6 b7)) ∧ Below w.heap.size w w' := by
  unfold maxLen at hs hs'
  generalize hr : cmpV k n s a0 a1 a2 a3 a4 a5 a6 a7 k' n' s' b0 b1 b2 b3 b4 b5 b6 b7 = r
  unfold cmpV at hr
  by_cases h1 : k = k'
  · subst h1
    rw [thn_zero (by simp [cmpI_self])] at hr
    by_cases h2 : n = n'
    · subst h2
      rw [thn_zero (by simp [cmpI_self])] at hr
      have HR := hid hr
      clear hr
      go_enter Try.func52, Try.ntmps52
      go_wp2
      go_loopw [5] (fun i wr => ∃ j : Nat, j ≤ s.size ∧ j ≤ s'.size ∧ i = .int .i64 j ∧ Hid (cmpB (s.data.toList.drop j) (s'.data.toList.drop j) = cmpS s s') ∧ Hid (wr.heap[w.heap.size]? = some (.cells #[.int .i64 k, .int .i64 n, .string s, .int .i64 a0, .int .i64 a1, .int .i64 a2, .int .i64 a3, .int .i64 a4, .int .i64 a5, .int .i64 a6, .int .i64 a7] 48 (0, 0))) ∧ Hid (wr.heap[w.heap.size + 1]? = some (.cells #[.int .i64 k, .int .i64 n, .string s', .int .i64 b0, .int .i64 b1, .int .i64 b2, .int .i64 b3, .int .i64 b4, .int .i64 b5, .int .i64 b6, .int .i64 b7] 48 (0, 0))) ∧ Hid (Below w.heap.size w wr)) (fun i _ => s.size - (intOf i).toNat)
      case atStart =>
        refine ⟨0, by omega, by omega, rfl, ?_, ?_, ?_, ?_⟩
        · show cmpB _ _ = cmpB _ _
          rw [ByteArray.toList_eq, ByteArray.toList_eq]; rfl
        · exact block_on (alloc_block w _) ((Below.refl _ _).alloc (Nat.le_refl _) _)
        · exact hid (alloc_block2 _ _ _)
        · show Below _ _ _
          go_grown
      case round =>
        obtain ⟨j, hj1, hj2, rfl, HC, HA, HB, HBel⟩ := hrel
        have c0 := fun o => block_cell HA.out o
        have c1 := fun o => block_cell HB.out o
        by_cases hlt : j < s.size ∧ j < s'.size
        · obtain ⟨l1, l2⟩ := hlt
          by_cases he : s[j] = s'[j]
          · have hne : ((s[j].toNat : Int) != (s'[j].toNat : Int)) = false := by rw [he]; simp
            have HE := hid he
            clear he
            go_wp2_with fail
            go_quiet (fail)
            go_wp2
            go_roundw
            case rel => exact ⟨j + 1, by omega, by omega, by go_num, (cmpB_drop_eq l1 l2 HE.out).symm.trans HC.out, HA.out, HB.out, below_drewN HBel.out _⟩
            case measure => simp [intOf]; omega
          · have hne : ((s[j].toNat : Int) != (s'[j].toNat : Int)) = true := by
              simp only [bne_iff_ne, ne_eq]; intro e; apply he; apply UInt8.toNat_inj.1; omega
            have HE := hid he
            clear he
            go_wp2_with fail
            go_quiet (fail)
            have HA2 := hid (show (wr.drewN nq).heap[w.heap.size]? = _ from HA.out)
            have HB2 := hid (show (wr.drewN nq).heap[w.heap.size + 1]? = _ from HB.out)
            have HBel2 := hid (below_drewN HBel.out nq)
            clear c0 c1 HA HB HBel
            generalize wr.drewN nq = wr2 at *
            have c0 := fun o => block_cell HA2.out o
            have c1 := fun o => block_cell HB2.out o
            go_wp2_with fail
            go_quiet ((go_at_call 63; exact Calls.quiet_of_same order_any))
            go_wp2
            go_ret
            refine ⟨ret_int ?_, below_drewN HBel2.out _⟩
            have hfin : cmpI (s[j].toNat : Int) (s'[j].toNat : Int) = r := by
              rw [← HR.out, ← HC.out, cmpB_drop_ne l1 l2 HE.out]
              exact (thn_ne (cmpI_ne (fun e => HE.out (UInt8.toNat_inj.1 (by omega))))).symm
            rw [wrap64_u8, wrap64_u8]
            exact hfin
        · have HE := hid (cmpB_end hj1 hj2 hlt)
          by_cases hs2 : s.size = s'.size
          · have hz : ((s.size : Int) != (s'.size : Int)) = false := by rw [hs2]; simp
            have hj3 : ¬ j < s.size := by omega
            have HR2 := hid (show cmpFrom (nth8 a0 a1 a2 a3 a4 a5 a6 a7) (nth8 b0 b1 b2 b3 b4 b5 b6 b7) 8 0 = r by
              rw [← HR.out, ← HC.out, HE.out, hs2, cmpI_self]; exact (thn_zero (by simp)).symm)
            clear hlt HE HC HR hs2
            go_wp2
            go_loopw [6] (fun i wr => ∃ j : Nat, j ≤ 8 ∧ i = .int .i64 j ∧ Hid (cmpFrom (nth8 a0 a1 a2 a3 a4 a5 a6 a7) (nth8 b0 b1 b2 b3 b4 b5 b6 b7) (8 - j) j = r) ∧ Hid (wr.heap[w.heap.size]? = some (.cells #[.int .i64 k, .int .i64 n, .string s, .int .i64 a0, .int .i64 a1, .int .i64 a2, .int .i64 a3, .int .i64 a4, .int .i64 a5, .int .i64 a6, .int .i64 a7] 48 (0, 0))) ∧ Hid (wr.heap[w.heap.size + 1]? = some (.cells #[.int .i64 k, .int .i64 n, .string s', .int .i64 b0, .int .i64 b1, .int .i64 b2, .int .i64 b3, .int .i64 b4, .int .i64 b5, .int .i64 b6, .int .i64 b7] 48 (0, 0))) ∧ Hid (Below w.heap.size w wr)) (fun i _ => 8 - (intOf i).toNat)
            case atStart => exact ⟨0, by omega, rfl, HR2.out, HA.out, HB.out, HBel.out⟩
            case round =>
              obtain ⟨i, hi, rfl, HC, HA, HB, HBel⟩ := hrel
              by_cases hlt : i < 8
              · have c0 := nth8_cell HA.out i hlt
                have c1 := nth8_cell HB.out i hlt
                by_cases he : nth8 a0 a1 a2 a3 a4 a5 a6 a7 i = nth8 b0 b1 b2 b3 b4 b5 b6 b7 i
                · have H0 := hid he
                  rw [← he] at c1
                  generalize nth8 a0 a1 a2 a3 a4 a5 a6 a7 i = xi at c0 c1
                  clear he
                  go_wp2_with fail
                  go_quiet (fail)
                  go_wp2
                  go_roundw
                  case rel => exact ⟨i + 1, by omega, by go_num, (cmpFrom_eq hlt H0.out).symm.trans HC.out, HA.out, HB.out, below_drewN HBel.out _⟩
                  case measure => simp [intOf]; omega
                · have H0 := hid he
                  have H1 := hid (cmpFrom_ne hlt he)
                  have hne : (nth8 a0 a1 a2 a3 a4 a5 a6 a7 i != nth8 b0 b1 b2 b3 b4 b5 b6 b7 i) = true := by simpa using he
                  clear he
                  go_wp2_with fail
                  go_quiet (fail)
                  have HA2 := hid (show (wr.drewN nq).heap[w.heap.size]? = _ from HA.out)
                  have HB2 := hid (show (wr.drewN nq).heap[w.heap.size + 1]? = _ from HB.out)
                  have HBel2 := hid (below_drewN HBel.out nq)
                  clear c0 c1 HA HB HBel
                  generalize wr.drewN nq = wr2 at *
                  have c0 := nth8_cell HA2.out i hlt
                  have c1 := nth8_cell HB2.out i hlt
                  go_wp2_with fail
                  go_quiet ((go_at_call 63; exact Calls.quiet_of_same order_any))
                  go_wp2
                  go_ret
                  exact ⟨ret_int (H1.out.symm.trans HC.out), below_drewN HBel2.out _⟩
              · have h8 : i = 8 := by omega
                subst h8
                go_wp2
                go_ret
                exact ⟨ret_int (by have := HC.out; simpa [cmpFrom] using this), HBel.out⟩
          · have hz : ((s.size : Int) != (s'.size : Int)) = true := by simp only [bne_iff_ne, ne_eq]; omega
            have HR2 := hid (show cmpI (s.size : Int) (s'.size : Int) = r by
              rw [← HR.out, ← HC.out, HE.out]; exact (thn_ne (cmpI_ne (by omega))).symm)
            clear HE HC HR hs2
            by_cases hj3 : j < s.size
            · have hj4 : ¬ j < s'.size := by omega
              clear hlt
              go_wp2_with (first | (go_at_call 63; refine order_any.mono ?_; rintro e w' ⟨rfl, rfl⟩))
              go_ret
              exact ⟨ret_int HR2.out, HBel.out⟩
            · clear hlt
              go_wp2_with (first | (go_at_call 63; refine order_any.mono ?_; rintro e w' ⟨rfl, rfl⟩))
              go_ret
              exact ⟨ret_int HR2.out, HBel.out⟩
    · have hz : (n != n') = true := by simpa using h2
      rw [thn_ne (cmpI_ne h2)] at hr
      have HR := hid hr
      clear hr h2
      go_enter Try.func52, Try.ntmps52
      go_wp2_with (first | (go_at_call 63; refine order_any.mono ?_; rintro e w' ⟨rfl, rfl⟩))
      go_ret
      exact ⟨ret_int HR.out, ((Below.refl _ _).alloc (Nat.le_refl _) _).alloc (by simp) _⟩
  · have hz : (k != k') = true := by simpa using h1
    rw [thn_ne (cmpI_ne h1)] at hr
    have HR := hid hr
    clear hr h1
    go_enter Try.func52, Try.ntmps52
    go_wp2_with (first | (go_at_call 63; refine order_any.mono ?_; rintro e w' ⟨rfl, rfl⟩))
    go_ret
    exact ⟨ret_int HR.out, ((Below.refl _ _).alloc (Nat.le_refl _) _).alloc (by simp) _⟩
end Go.Proofs.Ytoadamimfhjoiaa
