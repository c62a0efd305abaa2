/-
  What the reference's Valid and Compare return, for every input: what the program's do.
  What value.Holds returns, for every way and every two values.
  What the reference's Holds returns, for every way and every two values.
  Tables as plain data: values, their order, rows, their order, and canonical order: one list for all orders in which the rows stood.
  How rows, columns and tables lie in memory.
  What table.Name and the reference's Name return, for every text.
-/
import Derived.Test.YtjekpclbedbaoaaKS12
import Derived.Deep.Light
namespace Go.Proofs.Ytjekpclbedbaoaa.TN
open Go.RowKit
theorem toList_nil (s : ByteArray) : s.toList = [] ↔ s = noText := by
  constructor
  · intro h; exact bytes_toList_inj (by rw [h, ByteArray.toList_eq]; rfl)
  · intro h; subst h; rw [ByteArray.toList_eq]; rfl
theorem toList_isEmpty (s : ByteArray) : s.toList.isEmpty = decide (s = noText) := by
  rw [Bool.eq_iff_iff]; simp [toList_nil]
theorem size_iff (s : ByteArray) : (s.size : Int) ≤ 64 ↔ s.size ≤ 64 := by omega
set_option maxHeartbeats 400000 in
theorem rvalid_any {k n : Int} {s : ByteArray} {a0 a1 a2 a3 a4 a5 a6 a7 : Int} {w : World} :
    Calls Try.prog 45 #[V k n s a0 a1 a2 a3 a4 a5 a6 a7] w fun e w' => e = .returned (.bool (validB k n s a0 a1 a2 a3 a4 a5 a6 a7)) ∧ Below w.heap.size w w' := by
  have he := @eql22
  generalize hr : validB k n s a0 a1 a2 a3 a4 a5 a6 a7 = r
  have HR := hid (show validB k n s a0 a1 a2 a3 a4 a5 a6 a7 = r from hr)
  clear hr
  by_cases h1 : k = 1
  · subst h1
    go_enter Try.func45, Try.ntmps45
    go_wp2
    all_goals
      go_ret
      refine ⟨ret_bool ?_, (Below.refl _ _).alloc (Nat.le_refl _) _⟩
      go_light
      rw [← HR.out]
      have ht := toList_nil s
      have hz := size_iff s
      simp_all [validB, zeroH]
  · by_cases h2 : k = 2
    · subst h2
      go_enter Try.func45, Try.ntmps45
      go_wp2
      all_goals
        go_ret
        refine ⟨ret_bool ?_, (Below.refl _ _).alloc (Nat.le_refl _) _⟩
        go_light
        rw [← HR.out]
        have ht := toList_nil s
        have hz := size_iff s
        simp_all [validB, zeroH]
    · by_cases h3 : k = 3
      · subst h3
        go_enter Try.func45, Try.ntmps45
        go_wp2
        all_goals
          go_ret
          refine ⟨ret_bool ?_, (Below.refl _ _).alloc (Nat.le_refl _) _⟩
          go_light
          rw [← HR.out]
          have ht := toList_nil s
          have hz := size_iff s
          simp_all [validB, zeroH]
      · by_cases h4 : k = 4
        · subst h4
          go_enter Try.func45, Try.ntmps45
          go_wp2
          all_goals
            go_ret
            refine ⟨ret_bool ?_, (Below.refl _ _).alloc (Nat.le_refl _) _⟩
            go_light
            rw [← HR.out]
            have ht := toList_nil s
            have hz := size_iff s
            have hi := toList_isEmpty s
            simp_all [validB]
        · have g1 : (k == 1) = false := by simpa using h1
          have g2 : (k == 2) = false := by simpa using h2
          have g3 : (k == 3) = false := by simpa using h3
          have g4 : (k == 4) = false := by simpa using h4
          have HR2 := hid (show validB k n s a0 a1 a2 a3 a4 a5 a6 a7 = false by simp [validB, h1, h2, h3, h4])
          clear h1 h2 h3 h4
          go_enter Try.func45, Try.ntmps45
          go_wp2
          go_ret
          exact ⟨ret_bool (by rw [← HR.out, HR2.out]), (Below.refl _ _).alloc (Nat.le_refl _) _⟩
theorem alloc_block2 (w : World) (x y : Obj) : ((w.alloc x).alloc y).heap[w.heap.size + 1]? = some y := by
  have h := alloc_block (w.alloc x) y
  rwa [World.size_alloc] at h
theorem wrap64_u8 (c : UInt8) : wrap64 (c.toNat : Int) = (c.toNat : Int) := by
  have := c.toNat_lt
  go_arith
set_option maxHeartbeats 400000 in
theorem order_any {a b : Int} {w : World} :
    Calls Try.prog 70 #[.int .i64 a, .int .i64 b] w fun e w' => e = .returned (.int .i64 (cmpI a b)) ∧ w' = w := by
  go_enter Try.func70, Try.ntmps70
  go_wp2
  all_goals
    go_ret
    refine ⟨ret_int ?_, rfl⟩
    unfold cmpI
    split <;> (try split) <;> omega
theorem nth8_cell {W : World} {b : Nat} {k n : Int} {s : ByteArray} {a0 a1 a2 a3 a4 a5 a6 a7 : Int} (h : W.heap[b]? = some (.cells #[.int .i64 k, .int .i64 n, .string s, .int .i64 a0, .int .i64 a1, .int .i64 a2, .int .i64 a3, .int .i64 a4, .int .i64 a5, .int .i64 a6, .int .i64 a7] 40 (0, 0))) (i : Nat) (hi : i < 8) : W.cell? ⟨b, 3 + i, none⟩ = some (.int .i64 (nth8 a0 a1 a2 a3 a4 a5 a6 a7 i)) := by
  rw [block_cell h]
  rcases lt8 hi with rfl | rfl | rfl | rfl | rfl | rfl | rfl | rfl <;> rfl
theorem cmpB_drop_eq {x y : ByteArray} {i : Nat} (hx : i < x.size) (hy : i < y.size) (h : x[i] = y[i]) : cmpB (x.data.toList.drop i) (y.data.toList.drop i) = cmpB (x.data.toList.drop (i + 1)) (y.data.toList.drop (i + 1)) := by
  rw [List.drop_eq_getElem_cons (i := i) (by simpa using hx), List.drop_eq_getElem_cons (i := i) (l := y.data.toList) (by simpa using hy)]
  have h' : x.data.toList[i]'(by simpa using hx) = y.data.toList[i]'(by simpa using hy) := h
  simp [cmpB, h']
theorem cmpB_drop_ne {x y : ByteArray} {i : Nat} (hx : i < x.size) (hy : i < y.size) (h : ¬ x[i] = y[i]) : cmpB (x.data.toList.drop i) (y.data.toList.drop i) = cmpI (x[i].toNat : Int) (y[i].toNat : Int) := by
  rw [List.drop_eq_getElem_cons (i := i) (by simpa using hx), List.drop_eq_getElem_cons (i := i) (l := y.data.toList) (by simpa using hy)]
  have e1 : x.data.toList[i]'(by simpa using hx) = x[i] := rfl
  have e2 : y.data.toList[i]'(by simpa using hy) = y[i] := rfl
  rw [e1, e2]
  generalize x[i] = a at *
  generalize y[i] = b at *
  simp only [cmpB, cmpI, UInt8.lt_iff_toNat_lt]
  have hne : a.toNat ≠ b.toNat := fun e => h (UInt8.toNat_inj.1 e)
  repeat' split
  all_goals omega
theorem cmpB_end {x y : ByteArray} {i : Nat} (h1 : i ≤ x.size) (h2 : i ≤ y.size) (h : ¬ (i < x.size ∧ i < y.size)) : cmpB (x.data.toList.drop i) (y.data.toList.drop i) = cmpI (x.size : Int) (y.size : Int) := by
  have lx : x.data.toList.length = x.size := Array.length_toList
  have ly : y.data.toList.length = y.size := Array.length_toList
  have dx : (x.data.toList.drop i).length = x.size - i := by rw [List.length_drop, lx]
  have dy : (y.data.toList.drop i).length = y.size - i := by rw [List.length_drop, ly]
  generalize x.data.toList.drop i = p at *
  generalize y.data.toList.drop i = q at *
  unfold cmpI
  cases p with
  | nil =>
    cases q with
    | nil => simp at dx dy; rw [if_neg (by omega), if_neg (by omega)]; rfl
    | cons b q => simp at dx dy; rw [if_pos (by omega)]; rfl
  | cons a p =>
    cases q with
    | nil => simp at dx dy; rw [if_neg (by omega), if_pos (by omega)]; rfl
    | cons b q => simp at dx dy; omega
set_option maxHeartbeats 1000000 in
theorem rcompare_any {k n : Int} {s : ByteArray} {a0 a1 a2 a3 a4 a5 a6 a7 : Int} {k' n' : Int} {s' : ByteArray} {b0 b1 b2 b3 b4 b5 b6 b7 : Int} {w : World} (hs : s.size ≤ maxLen) (hs' : s'.size ≤ maxLen) :
    Calls Try.prog 46 #[V k n s a0 a1 a2 a3 a4 a5 a6 a7, V k' n' s' b0 b1 b2 b3 b4 b5 b6 b7] w fun e w' => e = .returned (.int .i64 (cmpV k n s a0 a1 a2 a3 a4 a5 a6 a7 k' n' s' b0 b1 b2 b3 b4 b5 b6 b7)) ∧ Below w.heap.size w w' := by
  unfold maxLen at hs hs'
  generalize hr : cmpV k n s a0 a1 a2 a3 a4 a5 a6 a7 k' n' s' b0 b1 b2 b3 b4 b5 b6 b7 = r
  unfold cmpV at hr
  by_cases h1 : k = k'
  · subst h1
    rw [thn_zero (by simp [cmpI_self])] at hr
    by_cases h2 : n = n'
    · subst h2
      rw [thn_zero (by simp [cmpI_self])] at hr
      have HR := hid hr
      clear hr
      go_enter Try.func46, Try.ntmps46
      go_wp2
      go_loopw [5] (fun i wr => ∃ j : Nat, j ≤ s.size ∧ j ≤ s'.size ∧ i = .int .i64 j ∧ Hid (cmpB (s.data.toList.drop j) (s'.data.toList.drop j) = cmpS s s') ∧ Hid (wr.heap[w.heap.size]? = some (.cells #[.int .i64 k, .int .i64 n, .string s, .int .i64 a0, .int .i64 a1, .int .i64 a2, .int .i64 a3, .int .i64 a4, .int .i64 a5, .int .i64 a6, .int .i64 a7] 40 (0, 0))) ∧ Hid (wr.heap[w.heap.size + 1]? = some (.cells #[.int .i64 k, .int .i64 n, .string s', .int .i64 b0, .int .i64 b1, .int .i64 b2, .int .i64 b3, .int .i64 b4, .int .i64 b5, .int .i64 b6, .int .i64 b7] 40 (0, 0))) ∧ Hid (Below w.heap.size w wr)) (fun i _ => s.size - (intOf i).toNat)
      case atStart =>
        refine ⟨0, by omega, by omega, rfl, ?_, ?_, ?_, ?_⟩
        · show cmpB _ _ = cmpB _ _
          rw [ByteArray.toList_eq, ByteArray.toList_eq]; rfl
        · exact block_on (alloc_block w _) ((Below.refl _ _).alloc (Nat.le_refl _) _)
        · exact hid (alloc_block2 _ _ _)
        · show Below _ _ _
          go_grown
      case round =>
        obtain ⟨j, hj1, hj2, rfl, HC, HA, HB, HBel⟩ := hrel
        have c0 := fun o => block_cell HA.out o
        have c1 := fun o => block_cell HB.out o
        by_cases hlt : j < s.size ∧ j < s'.size
        · obtain ⟨l1, l2⟩ := hlt
          by_cases he : s[j] = s'[j]
          · have hne : ((s[j].toNat : Int) != (s'[j].toNat : Int)) = false := by rw [he]; simp
            have HE := hid he
            clear he
            go_wp2_with fail
            go_quiet (fail)
            go_wp2
            go_roundw
            case rel => exact ⟨j + 1, by omega, by omega, by go_num, (cmpB_drop_eq l1 l2 HE.out).symm.trans HC.out, HA.out, HB.out, below_drewN HBel.out _⟩
            case measure => simp [intOf]; omega
          · have hne : ((s[j].toNat : Int) != (s'[j].toNat : Int)) = true := by
              simp only [bne_iff_ne, ne_eq]; intro e; apply he; apply UInt8.toNat_inj.1; omega
            have HE := hid he
            clear he
            go_wp2_with fail
            go_quiet (fail)
            have HA2 := hid (show (wr.drewN nq).heap[w.heap.size]? = _ from HA.out)
            have HB2 := hid (show (wr.drewN nq).heap[w.heap.size + 1]? = _ from HB.out)
            have HBel2 := hid (below_drewN HBel.out nq)
            clear c0 c1 HA HB HBel
            generalize wr.drewN nq = wr2 at *
            have c0 := fun o => block_cell HA2.out o
            have c1 := fun o => block_cell HB2.out o
            go_wp2_with fail
            go_quiet ((go_at_call 70; exact Calls.quiet_of_same order_any))
            go_wp2
            go_ret
            refine ⟨ret_int ?_, below_drewN HBel2.out _⟩
            have hfin : cmpI (s[j].toNat : Int) (s'[j].toNat : Int) = r := by
              rw [← HR.out, ← HC.out, cmpB_drop_ne l1 l2 HE.out]
              exact (thn_ne (cmpI_ne (fun e => HE.out (UInt8.toNat_inj.1 (by omega))))).symm
            rw [wrap64_u8, wrap64_u8]
            exact hfin
        · have HE := hid (cmpB_end hj1 hj2 hlt)
          by_cases hs2 : s.size = s'.size
          · have hz : ((s.size : Int) != (s'.size : Int)) = false := by rw [hs2]; simp
            have hj3 : ¬ j < s.size := by omega
            have HR2 := hid (show cmpFrom (nth8 a0 a1 a2 a3 a4 a5 a6 a7) (nth8 b0 b1 b2 b3 b4 b5 b6 b7) 8 0 = r by
              rw [← HR.out, ← HC.out, HE.out, hs2, cmpI_self]; exact (thn_zero (by simp)).symm)
            clear hlt HE HC HR hs2
            go_wp2
            go_loopw [6] (fun i wr => ∃ j : Nat, j ≤ 8 ∧ i = .int .i64 j ∧ Hid (cmpFrom (nth8 a0 a1 a2 a3 a4 a5 a6 a7) (nth8 b0 b1 b2 b3 b4 b5 b6 b7) (8 - j) j = r) ∧ Hid (wr.heap[w.heap.size]? = some (.cells #[.int .i64 k, .int .i64 n, .string s, .int .i64 a0, .int .i64 a1, .int .i64 a2, .int .i64 a3, .int .i64 a4, .int .i64 a5, .int .i64 a6, .int .i64 a7] 40 (0, 0))) ∧ Hid (wr.heap[w.heap.size + 1]? = some (.cells #[.int .i64 k, .int .i64 n, .string s', .int .i64 b0, .int .i64 b1, .int .i64 b2, .int .i64 b3, .int .i64 b4, .int .i64 b5, .int .i64 b6, .int .i64 b7] 40 (0, 0))) ∧ Hid (Below w.heap.size w wr)) (fun i _ => 8 - (intOf i).toNat)
            case atStart => exact ⟨0, by omega, rfl, HR2.out, HA.out, HB.out, HBel.out⟩
            case round =>
              obtain ⟨i, hi, rfl, HC, HA, HB, HBel⟩ := hrel
              by_cases hlt : i < 8
              · have c0 := nth8_cell HA.out i hlt
                have c1 := nth8_cell HB.out i hlt
                by_cases he : nth8 a0 a1 a2 a3 a4 a5 a6 a7 i = nth8 b0 b1 b2 b3 b4 b5 b6 b7 i
                · have H0 := hid he
                  rw [← he] at c1
                  generalize nth8 a0 a1 a2 a3 a4 a5 a6 a7 i = xi at c0 c1
                  clear he
                  go_wp2_with fail
                  go_quiet (fail)
                  go_wp2
                  go_roundw
                  case rel => exact ⟨i + 1, by omega, by go_num, (cmpFrom_eq hlt H0.out).symm.trans HC.out, HA.out, HB.out, below_drewN HBel.out _⟩
                  case measure => simp [intOf]; omega
                · have H0 := hid he
                  have H1 := hid (cmpFrom_ne hlt he)
                  have hne : (nth8 a0 a1 a2 a3 a4 a5 a6 a7 i != nth8 b0 b1 b2 b3 b4 b5 b6 b7 i) = true := by simpa using he
                  clear he
                  go_wp2_with fail
                  go_quiet (fail)
                  have HA2 := hid (show (wr.drewN nq).heap[w.heap.size]? = _ from HA.out)
                  have HB2 := hid (show (wr.drewN nq).heap[w.heap.size + 1]? = _ from HB.out)
                  have HBel2 := hid (below_drewN HBel.out nq)
                  clear c0 c1 HA HB HBel
                  generalize wr.drewN nq = wr2 at *
                  have c0 := nth8_cell HA2.out i hlt
                  have c1 := nth8_cell HB2.out i hlt
                  go_wp2_with fail
                  go_quiet ((go_at_call 70; exact Calls.quiet_of_same order_any))
                  go_wp2
                  go_ret
                  exact ⟨ret_int (H1.out.symm.trans HC.out), below_drewN HBel2.out _⟩
              · have h8 : i = 8 := by omega
                subst h8
                go_wp2
                go_ret
                exact ⟨ret_int (by have := HC.out; simpa [cmpFrom] using this), HBel.out⟩
          · have hz : ((s.size : Int) != (s'.size : Int)) = true := by simp only [bne_iff_ne, ne_eq]; omega
            have HR2 := hid (show cmpI (s.size : Int) (s'.size : Int) = r by
              rw [← HR.out, ← HC.out, HE.out]; exact (thn_ne (cmpI_ne (by omega))).symm)
            clear HE HC HR hs2
            by_cases hj3 : j < s.size
            · have hj4 : ¬ j < s'.size := by omega
              clear hlt
              go_wp2_with (first | (go_at_call 70; refine order_any.mono ?_; rintro e w' ⟨rfl, rfl⟩))
              go_ret
              exact ⟨ret_int HR2.out, HBel.out⟩
            · clear hlt
              go_wp2_with (first | (go_at_call 70; refine order_any.mono ?_; rintro e w' ⟨rfl, rfl⟩))
              go_ret
              exact ⟨ret_int HR2.out, HBel.out⟩
    · have hz : (n != n') = true := by simpa using h2
      rw [thn_ne (cmpI_ne h2)] at hr
      have HR := hid hr
      clear hr h2
      go_enter Try.func46, Try.ntmps46
      go_wp2_with (first | (go_at_call 70; refine order_any.mono ?_; rintro e w' ⟨rfl, rfl⟩))
      go_ret
      exact ⟨ret_int HR.out, ((Below.refl _ _).alloc (Nat.le_refl _) _).alloc (by simp) _⟩
  · have hz : (k != k') = true := by simpa using h1
    rw [thn_ne (cmpI_ne h1)] at hr
    have HR := hid hr
    clear hr h1
    go_enter Try.func46, Try.ntmps46
    go_wp2_with (first | (go_at_call 70; refine order_any.mono ?_; rintro e w' ⟨rfl, rfl⟩))
    go_ret
    exact ⟨ret_int HR.out, ((Below.refl _ _).alloc (Nat.le_refl _) _).alloc (by simp) _⟩
end Go.Proofs.Ytjekpclbedbaoaa.TN
namespace Go.Proofs.Ytjekpclbedbaoaa.TN
open Go.RowKit

def holdsB (how k k' c : Int) : Bool :=
  if k = k' then (if how = 1 then c == 0 else if how = 2 then c != 0 else if how = 3 then decide (c < 0) else if how = 4 then decide (c ≤ 0) else if how = 5 then decide (0 < c) else if how = 6 then decide (0 ≤ c) else false) else false

theorem ret_boolH {a b : Bool} (h : a = b) : Ending.returned (.bool a) = .returned (.bool b) := by rw [h]

set_option maxHeartbeats 400000 in
theorem holds_any {how : Int} {k n : Int} {s : ByteArray} {a0 a1 a2 a3 a4 a5 a6 a7 : Int} {k' n' : Int} {s' : ByteArray} {b0 b1 b2 b3 b4 b5 b6 b7 : Int} {w : World} :
    Calls Try.prog 76 #[.int .i64 how, V k n s a0 a1 a2 a3 a4 a5 a6 a7, V k' n' s' b0 b1 b2 b3 b4 b5 b6 b7] w fun e w' => e = .returned (.bool (holdsB how k k' (cmpV k n s a0 a1 a2 a3 a4 a5 a6 a7 k' n' s' b0 b1 b2 b3 b4 b5 b6 b7))) ∧ Below w.heap.size w w' := by
  by_cases hk : k = k'
  · subst hk
    by_cases h1 : how = 1
    · subst h1
      go_enter Try.func76, Try.ntmps76
      go_wp2_with (go_at_call 100; refine compare_any.mono ?_; rintro e w' ⟨rfl, hb⟩)
      go_ret
      exact ⟨ret_boolH (by simp [holdsB]), (((Below.refl _ _).alloc (Nat.le_refl _) _).alloc (by simp) _).trans (hb.below.mono (by go_size))⟩
    · by_cases h2 : how = 2
      · subst h2
        go_enter Try.func76, Try.ntmps76
        go_wp2_with (go_at_call 100; refine compare_any.mono ?_; rintro e w' ⟨rfl, hb⟩)
        go_ret
        exact ⟨ret_boolH (by simp [holdsB]), (((Below.refl _ _).alloc (Nat.le_refl _) _).alloc (by simp) _).trans (hb.below.mono (by go_size))⟩
      · by_cases h3 : how = 3
        · subst h3
          go_enter Try.func76, Try.ntmps76
          go_wp2_with (go_at_call 100; refine compare_any.mono ?_; rintro e w' ⟨rfl, hb⟩)
          go_ret
          exact ⟨ret_boolH (by simp [holdsB]), (((Below.refl _ _).alloc (Nat.le_refl _) _).alloc (by simp) _).trans (hb.below.mono (by go_size))⟩
        · by_cases h4 : how = 4
          · subst h4
            go_enter Try.func76, Try.ntmps76
            go_wp2_with (go_at_call 100; refine compare_any.mono ?_; rintro e w' ⟨rfl, hb⟩)
            go_ret
            exact ⟨ret_boolH (by simp [holdsB]), (((Below.refl _ _).alloc (Nat.le_refl _) _).alloc (by simp) _).trans (hb.below.mono (by go_size))⟩
          · by_cases h5 : how = 5
            · subst h5
              go_enter Try.func76, Try.ntmps76
              go_wp2_with (go_at_call 100; refine compare_any.mono ?_; rintro e w' ⟨rfl, hb⟩)
              go_ret
              exact ⟨ret_boolH (by simp [holdsB]), (((Below.refl _ _).alloc (Nat.le_refl _) _).alloc (by simp) _).trans (hb.below.mono (by go_size))⟩
            · by_cases h6 : how = 6
              · subst h6
                go_enter Try.func76, Try.ntmps76
                go_wp2_with (go_at_call 100; refine compare_any.mono ?_; rintro e w' ⟨rfl, hb⟩)
                go_ret
                exact ⟨ret_boolH (by simp [holdsB]), (((Below.refl _ _).alloc (Nat.le_refl _) _).alloc (by simp) _).trans (hb.below.mono (by go_size))⟩
              · have h : holdsB how k k (cmpV k n s a0 a1 a2 a3 a4 a5 a6 a7 k n' s' b0 b1 b2 b3 b4 b5 b6 b7) = false := by simp [holdsB, h1, h2, h3, h4, h5, h6]
                rw [h]
                clear h
                have g1 : (how == 1) = false := by simpa using h1
                have g2 : (how == 2) = false := by simpa using h2
                have g3 : (how == 3) = false := by simpa using h3
                have g4 : (how == 4) = false := by simpa using h4
                have g5 : (how == 5) = false := by simpa using h5
                have g6 : (how == 6) = false := by simpa using h6
                clear h1 h2 h3 h4 h5 h6
                go_enter Try.func76, Try.ntmps76
                go_wp2_with (go_at_call 100; refine compare_any.mono ?_; rintro e w' ⟨rfl, hb⟩)
                go_ret
                exact ⟨rfl, (((Below.refl _ _).alloc (Nat.le_refl _) _).alloc (by simp) _).trans (hb.below.mono (by go_size))⟩
  · have h : holdsB how k k' (cmpV k n s a0 a1 a2 a3 a4 a5 a6 a7 k' n' s' b0 b1 b2 b3 b4 b5 b6 b7) = false := by simp [holdsB, hk]
    rw [h]
    have hk' : (k != k') = true := by simpa using hk
    go_enter Try.func76, Try.ntmps76
    go_wp2
    go_ret
    exact ⟨rfl, ((Below.refl _ _).alloc (Nat.le_refl _) _).alloc (by simp) _⟩
end Go.Proofs.Ytjekpclbedbaoaa.TN
namespace Go.Proofs.Ytjekpclbedbaoaa.TN
open Go.RowKit

end Go.Proofs.Ytjekpclbedbaoaa.TN
namespace Go.Proofs.Ytjekpclbedbaoaa.TN
open Go.RowKit

structure Vl where
  k : Int
  n : Int
  s : ByteArray
  h0 : Int
  h1 : Int
  h2 : Int
  h3 : Int
  h4 : Int
  h5 : Int
  h6 : Int
  h7 : Int
  small : s.size ≤ maxLen
abbrev Vl.val (v : Vl) : Value := V v.k v.n v.s v.h0 v.h1 v.h2 v.h3 v.h4 v.h5 v.h6 v.h7
def Vl.cells (v : Vl) : List Value := [.int .i64 v.k, .int .i64 v.n, .string v.s, .int .i64 v.h0, .int .i64 v.h1, .int .i64 v.h2, .int .i64 v.h3, .int .i64 v.h4, .int .i64 v.h5, .int .i64 v.h6, .int .i64 v.h7]
def cmpL (x y : Vl) : Int := cmpV x.k x.n x.s x.h0 x.h1 x.h2 x.h3 x.h4 x.h5 x.h6 x.h7 y.k y.n y.s y.h0 y.h1 y.h2 y.h3 y.h4 y.h5 y.h6 y.h7
def validL (x : Vl) : Bool := validB x.k x.n x.s x.h0 x.h1 x.h2 x.h3 x.h4 x.h5 x.h6 x.h7
def eqL (x y : Vl) : Bool := eqV x.k x.n x.s x.h0 x.h1 x.h2 x.h3 x.h4 x.h5 x.h6 x.h7 y.k y.n y.s y.h0 y.h1 y.h2 y.h3 y.h4 y.h5 y.h6 y.h7

theorem eqL_iff (x y : Vl) : eqL x y = true ↔ x = y := by
  cases x; cases y
  simp only [eqL, eqV, eqH, Bool.and_eq_true, decide_eq_true_eq, Vl.mk.injEq]
  constructor
  · rintro ⟨⟨h1, h2, h3⟩, h⟩; exact ⟨h1, h2, h3, h⟩
  · rintro ⟨h1, h2, h3, h⟩; exact ⟨⟨h1, h2, h3⟩, h⟩
theorem tri_cmpL (x y z : Vl) : tri (cmpL x y) (cmpL y z) (cmpL x z) := tri_cmpV ..
theorem neg_cmpL (x y : Vl) : cmpL y x = -cmpL x y := neg_cmpV ..
theorem cmpL_zero (x y : Vl) : cmpL x y = 0 ↔ x = y := by
  rw [← eqL_iff]
  unfold eqL cmpL
  rw [eqV_cmpV]; simp
theorem eqL_cmpL (x y : Vl) : eqL x y = (cmpL x y == 0) := by unfold eqL cmpL; rw [eqV_cmpV]
instance : DecidableEq Vl := fun x y => decidable_of_iff _ (eqL_iff x y)

abbrev Rw := List Vl
def cmpR : Rw → Rw → Int
  | [], [] => 0
  | [], _ :: _ => -1
  | _ :: _, [] => 1
  | a :: x, b :: y => thn (cmpL a b) (cmpR x y)
theorem three_of_tri {x y z : Int} (h : tri x y z) : x = -1 ∨ x = 0 ∨ x = 1 := h.1
theorem cmpR_three (x y : Rw) : cmpR x y = -1 ∨ cmpR x y = 0 ∨ cmpR x y = 1 := by
  induction x generalizing y with
  | nil => cases y <;> simp [cmpR]
  | cons a x ih =>
    cases y with
    | nil => simp [cmpR]
    | cons b y =>
      have h1 := three_of_tri (tri_cmpL a b b)
      have h2 := ih y
      simp only [cmpR, thn]; split <;> omega
theorem tri_cmpR (x y z : Rw) : tri (cmpR x y) (cmpR y z) (cmpR x z) := by
  induction x generalizing y z with
  | nil =>
    cases y with
    | nil => cases z <;> simp [tri, cmpR]
    | cons b y =>
      cases z with
      | nil => simp [tri, cmpR]
      | cons c z => exact tri_left (cmpR_three _ _)
  | cons a x ih =>
    cases y with
    | nil =>
      cases z with
      | nil => simp [tri, cmpR]
      | cons c z => exact tri_mid (cmpR_three _ _)
    | cons b y =>
      cases z with
      | nil => exact tri_right (cmpR_three _ _)
      | cons c z => exact tri_thn (tri_cmpL _ _ _) (ih _ _)
theorem neg_cmpR (x y : Rw) : cmpR y x = -cmpR x y := by
  induction x generalizing y with
  | nil => cases y <;> simp [cmpR]
  | cons a x ih =>
    cases y with
    | nil => simp [cmpR]
    | cons b y => exact neg_thn (neg_cmpL _ _) (ih _)
theorem cmpR_zero (x y : Rw) : cmpR x y = 0 ↔ x = y := by
  induction x generalizing y with
  | nil => cases y <;> simp [cmpR]
  | cons a x ih =>
    cases y with
    | nil => simp [cmpR]
    | cons b y => simp only [cmpR, thn_zero_iff, cmpL_zero, ih, List.cons.injEq]

/- Canonical order. -/
def sortR (l : List Rw) : List Rw := l.mergeSort fun x y => decide (cmpR x y ≤ 0)
def upR (l : List Rw) : Prop := l.Pairwise fun x y => cmpR x y ≤ 0
theorem cmpR_trans {x y z : Rw} (h1 : cmpR x y ≤ 0) (h2 : cmpR y z ≤ 0) : cmpR x z ≤ 0 := by
  obtain ⟨a, b, c, d, e, f, g⟩ := tri_cmpR x y z
  omega
theorem sortR_perm (l : List Rw) : (sortR l).Perm l := List.mergeSort_perm _ _
theorem sortR_up (l : List Rw) : upR (sortR l) := by
  have := List.pairwise_mergeSort (le := fun x y => decide (cmpR x y ≤ 0)) (fun a b c h1 h2 => by simp at *; exact cmpR_trans h1 h2) (fun a b => by have := neg_cmpR a b; simp; omega) l
  exact this.imp fun h => by simpa using h
theorem up_unique {l m : List Rw} (hl : upR l) (hm : upR m) (hp : l.Perm m) : l = m :=
  List.Perm.eq_of_pairwise (le := fun x y => cmpR x y ≤ 0) (fun a b _ _ h1 h2 => (cmpR_zero a b).1 (by have := neg_cmpR a b; omega)) hl hm hp
theorem sortR_of {l m : List Rw} (hl : upR l) (hp : l.Perm m) : l = sortR m := up_unique hl (sortR_up m) (hp.trans (sortR_perm m).symm)
theorem sortR_perm_eq {l m : List Rw} (hp : l.Perm m) : sortR l = sortR m := sortR_of (sortR_up l) ((sortR_perm l).trans hp)
theorem sortR_length (l : List Rw) : (sortR l).length = l.length := (sortR_perm l).length_eq
theorem sortR_sortR (l : List Rw) : sortR (sortR l) = sortR l := sortR_perm_eq (sortR_perm l)

/- Columns. -/
structure Cl where
  nm : ByteArray
  kd : Int
  small : nm.size ≤ maxLen
def Cl.cells (c : Cl) : List Value := [.string c.nm, .int .i64 c.kd]
def eqC (x y : Cl) : Bool := decide (x.nm = y.nm ∧ x.kd = y.kd)
theorem eqC_iff (x y : Cl) : eqC x y = true ↔ x = y := by
  cases x; cases y; simp [eqC]
instance : DecidableEq Cl := fun x y => decidable_of_iff _ (eqC_iff x y)
end Go.Proofs.Ytjekpclbedbaoaa.TN
namespace Go.Proofs.Ytjekpclbedbaoaa.TN
open Go.RowKit Go.Sort

/- Cells one behind the other. -/
def CellsAt (w : World) (b o : Nat) (xs : List Value) : Prop := ∀ (j : Nat) u, xs[j]? = some u → w.cell? ⟨b, o + j, none⟩ = some u
theorem CellsAt.on {w w' : World} {b o : Nat} {xs : List Value} (h : CellsAt w b o xs) (hb : Below w.heap.size w w') : CellsAt w' b o xs := fun j u hj => by
  have := h j u hj
  exact (hb.cell (p := ⟨b, o + j, none⟩) (block_lt_of_cell this)).trans this
/- How many bytes an element of k cells takes, for the three kinds of slices here. -/
def bsz (k : Nat) : Nat := if k = 11 then 96 else 24
/- A slice of elements of k cells each, in a block of which Q holds. -/
def SlAt {α : Type} (Q : Nat → Prop) (enc : α → List Value) (k : Nat) (w : World) (v : Value) (xs : List α) : Prop :=
  ∃ (p : Option Addr) (cap : Nat), v = .slice p xs.length cap ∧ (xs.length ≤ cap ∧ (p = none → cap = 0)) ∧ xs.length ≤ maxLen ∧ (xs ≠ [] → ∃ b o, p = some ⟨b, o, none⟩ ∧ (Q b ∧ xs.length * bsz k ≤ 140737488355328) ∧ ∀ (j : Nat) x, xs[j]? = some x → CellsAt w b (o + j * k) (enc x))
theorem SlAt.on {α : Type} {Q : Nat → Prop} {enc : α → List Value} {k : Nat} {w w' : World} {v : Value} {xs : List α} (h : SlAt Q enc k w v xs) (hb : Below w.heap.size w w') : SlAt Q enc k w' v xs := by
  obtain ⟨p, cap, hv, hc, hm, hx⟩ := h
  exact ⟨p, cap, hv, hc, hm, fun hne => let ⟨b, o, hp, hQ, hj⟩ := hx hne; ⟨b, o, hp, hQ, fun j x hjx => (hj j x hjx).on hb⟩⟩
theorem SlAt.imp {α : Type} {Q Q' : Nat → Prop} {enc : α → List Value} {k : Nat} {w : World} {v : Value} {xs : List α} (h : SlAt Q enc k w v xs) (hq : ∀ b, Q b → Q' b) : SlAt Q' enc k w v xs := by
  obtain ⟨p, cap, hv, hc, hm, hx⟩ := h
  exact ⟨p, cap, hv, hc, hm, fun hne => let ⟨b, o, hp, hQ, hj⟩ := hx hne; ⟨b, o, hp, ⟨hq b hQ.1, hQ.2⟩, hj⟩⟩
def any (_ : Nat) : Prop := True
def RowIn (Q : Nat → Prop) (w : World) (v : Value) (r : Rw) : Prop := SlAt Q Vl.cells 11 w v r
abbrev RowAt := RowIn any
theorem RowIn.on {Q : Nat → Prop} {w w' : World} {v : Value} {r : Rw} (h : RowIn Q w v r) (hb : Below w.heap.size w w') : RowIn Q w' v r := SlAt.on h hb
theorem RowIn.imp {Q Q' : Nat → Prop} {w : World} {v : Value} {r : Rw} (h : RowIn Q w v r) (hq : ∀ b, Q b → Q' b) : RowIn Q' w v r := SlAt.imp h hq
theorem RowIn.at {Q : Nat → Prop} {w : World} {v : Value} {r : Rw} (h : RowIn Q w v r) : RowAt w v r := h.imp fun _ _ => trivial
def ColsAt (w : World) (v : Value) (cs : List Cl) : Prop := SlAt any Cl.cells 2 w v cs
theorem ColsAt.on {w w' : World} {v : Value} {cs : List Cl} (h : ColsAt w v cs) (hb : Below w.heap.size w w') : ColsAt w' v cs := SlAt.on h hb
/- One header a row. -/
def HeadsIn (Q : Nat → Prop) (w : World) (hs : List Value) (rs : List Rw) : Prop := hs.length = rs.length ∧ ∀ (j : Nat) h r, hs[j]? = some h → rs[j]? = some r → RowIn Q w h r
theorem HeadsIn.on {Q : Nat → Prop} {w w' : World} {hs : List Value} {rs : List Rw} (h : HeadsIn Q w hs rs) (hb : Below w.heap.size w w') : HeadsIn Q w' hs rs := ⟨h.1, fun j x r h1 h2 => (h.2 j x r h1 h2).on hb⟩
def one (v : Value) : List Value := [v]
def RowsAt (w : World) (v : Value) (rs : List Rw) : Prop := ∃ hs, SlAt any one 1 w v hs ∧ HeadsIn any w hs rs
theorem RowsAt.on {w w' : World} {v : Value} {rs : List Rw} (h : RowsAt w v rs) (hb : Below w.heap.size w w') : RowsAt w' v rs := let ⟨hs, h1, h2⟩ := h; ⟨hs, h1.on hb, h2.on hb⟩
def TabAt (w : World) (v : Value) (cs : List Cl) (rs : List Rw) : Prop := ∃ c r, v = .agg #[c, r] ∧ ColsAt w c cs ∧ RowsAt w r rs
theorem TabAt.on {w w' : World} {v : Value} {cs : List Cl} {rs : List Rw} (h : TabAt w v cs rs) (hb : Below w.heap.size w w') : TabAt w' v cs rs := let ⟨c, r, h0, h1, h2⟩ := h; ⟨c, r, h0, h1.on hb, h2.on hb⟩

/- The same, all of it in blocks of which Q holds. -/
def TabIn (Q : Nat → Prop) (w : World) (v : Value) (cs : List Cl) (rs : List Rw) : Prop := ∃ c r, v = .agg #[c, r] ∧ SlAt Q Cl.cells 2 w c cs ∧ ∃ hs, SlAt Q one 1 w r hs ∧ HeadsIn Q w hs rs
theorem HeadsIn.imp {Q Q' : Nat → Prop} {w : World} {hs : List Value} {rs : List Rw} (h : HeadsIn Q w hs rs) (hq : ∀ b, Q b → Q' b) : HeadsIn Q' w hs rs := ⟨h.1, fun j x r h1 h2 => (h.2 j x r h1 h2).imp hq⟩
theorem TabIn.on {Q : Nat → Prop} {w w' : World} {v : Value} {cs : List Cl} {rs : List Rw} (h : TabIn Q w v cs rs) (hb : Below w.heap.size w w') : TabIn Q w' v cs rs := let ⟨c, r, h0, h1, hs, h2, h3⟩ := h; ⟨c, r, h0, h1.on hb, hs, h2.on hb, h3.on hb⟩
theorem TabIn.imp {Q Q' : Nat → Prop} {w : World} {v : Value} {cs : List Cl} {rs : List Rw} (h : TabIn Q w v cs rs) (hq : ∀ b, Q b → Q' b) : TabIn Q' w v cs rs := let ⟨c, r, h0, h1, hs, h2, h3⟩ := h; ⟨c, r, h0, h1.imp hq, hs, h2.imp hq, h3.imp hq⟩
theorem TabIn.at {Q : Nat → Prop} {w : World} {v : Value} {cs : List Cl} {rs : List Rw} (h : TabIn Q w v cs rs) : TabAt w v cs rs := let ⟨c, r, h0, h1, hs, h2, h3⟩ := h.imp (Q' := any) (fun _ _ => trivial); ⟨c, r, h0, h1, hs, h2, h3⟩

/- What a walk wants of one element. -/
theorem cells_at {w : World} {b o : Nat} {xs : List Value} (h : CellsAt w b o xs) (i : Nat) {u : Value} (hu : xs[i]? = some u) : w.cell? ⟨b, o + i, none⟩ = some u := h i u hu
theorem col_cells {w : World} {b o : Nat} {c : Cl} (h : CellsAt w b o c.cells) : w.cell? ⟨b, o, none⟩ = some (.string c.nm) ∧ w.cell? ⟨b, o + 1, none⟩ = some (.int .i64 c.kd) := ⟨h 0 _ rfl, h 1 _ rfl⟩
structure ValCells (w : World) (b o : Nat) (v : Vl) : Prop where
  c0 : w.cell? ⟨b, o, none⟩ = some (.int .i64 v.k)
  c1 : w.cell? ⟨b, o + 1, none⟩ = some (.int .i64 v.n)
  c2 : w.cell? ⟨b, o + 2, none⟩ = some (.string v.s)
  c3 : w.cell? ⟨b, o + 3, none⟩ = some (.int .i64 v.h0)
  c4 : w.cell? ⟨b, o + 4, none⟩ = some (.int .i64 v.h1)
  c5 : w.cell? ⟨b, o + 5, none⟩ = some (.int .i64 v.h2)
  c6 : w.cell? ⟨b, o + 6, none⟩ = some (.int .i64 v.h3)
  c7 : w.cell? ⟨b, o + 7, none⟩ = some (.int .i64 v.h4)
  c8 : w.cell? ⟨b, o + 8, none⟩ = some (.int .i64 v.h5)
  c9 : w.cell? ⟨b, o + 9, none⟩ = some (.int .i64 v.h6)
  c10 : w.cell? ⟨b, o + 10, none⟩ = some (.int .i64 v.h7)
theorem val_cells {w : World} {b o : Nat} {v : Vl} (h : CellsAt w b o v.cells) : ValCells w b o v :=
  ⟨h 0 _ rfl, h 1 _ rfl, h 2 _ rfl, h 3 _ rfl, h 4 _ rfl, h 5 _ rfl, h 6 _ rfl, h 7 _ rfl, h 8 _ rfl, h 9 _ rfl, h 10 _ rfl⟩
end Go.Proofs.Ytjekpclbedbaoaa.TN
namespace Go.Proofs.Ytjekpclbedbaoaa.TN
open Go.RowKit Go.Sort

def letB (c : UInt8) : Bool := decide (97 ≤ c.toNat) && decide (c.toNat ≤ 122)
def nmB (c : UInt8) : Bool := letB c || (decide (48 ≤ c.toNat) && decide (c.toNat ≤ 57)) || decide (c.toNat = 95) || decide (c.toNat = 35)
def nameB (s : ByteArray) : Bool := decide (1 ≤ s.size ∧ s.size ≤ 24) && (letB (s.data.getD 0 0) && s.data.toList.all nmB)

set_option maxHeartbeats 400000 in
theorem isLetter_any {c : UInt8} {w : World} :
    Calls Try.prog 102 #[.int .u8 (c.toNat : Int)] w fun e w' => e = .returned (.bool (letB c)) ∧ w' = w := by
  generalize hr : letB c = r
  have HR := hid hr
  clear hr
  go_enter Try.func102, Try.ntmps102
  go_wp2
  all_goals
    go_ret
    refine ⟨ret_bool ?_, rfl⟩
    rw [← HR.out]
    unfold letB
    rw [Bool.eq_iff_iff]
    simp only [Bool.and_eq_true, decide_eq_true_eq, Bool.false_eq_true, false_iff]
    omega
theorem nmB_is {c : UInt8} {r : Bool} (h : (letB c || (decide (48 ≤ c.toNat) && decide (c.toNat ≤ 57)) || decide (c.toNat = 95) || decide (c.toNat = 35)) = r) : nmB c = r := h
set_option maxHeartbeats 400000 in
theorem isNameByte_any {c : UInt8} {w : World} :
    Calls Try.prog 103 #[.int .u8 (c.toNat : Int)] w fun e w' => e = .returned (.bool (nmB c)) ∧ w' = w := by
  generalize hr : nmB c = r
  have HR := hid hr
  clear hr
  go_enter Try.func103, Try.ntmps103
  go_wp2_with (go_at_call 102; refine isLetter_any.mono ?_; rintro e w' ⟨rfl, rfl⟩)
  all_goals
    go_ret
    refine ⟨ret_bool ?_, rfl⟩
    rw [← HR.out]
    unfold nmB
    rw [Bool.eq_iff_iff]
    simp only [Bool.or_eq_true, Bool.and_eq_true, decide_eq_true_eq, true_iff, beq_iff_eq]
    first | omega | (simp [*]; done) | (simp [*]; omega)
theorem all_upto {s : ByteArray} : s.data.toList.all nmB = true ↔ ∀ i (h : i < s.size), nmB s[i] = true := by
  rw [List.all_eq_true]
  constructor
  · intro h i hi
    exact h _ (Array.mem_toList_iff.2 (Array.getElem_mem (by exact hi)))
  · intro h c hc
    obtain ⟨i, hi, rfl⟩ := List.mem_iff_getElem.1 hc
    exact h i (by simpa using hi)
theorem nameB_first {s : ByteArray} (h : 0 < s.size) : s.data.getD 0 0 = s[0] := by
  have h' : 0 < s.data.size := h
  rw [← Array.getElem_eq_getD (h := h')]; rfl
theorem name_no {s : ByteArray} (h : ¬ (1 ≤ s.size ∧ s.size ≤ 24)) : nameB s = false := by simp [nameB, h]
theorem name_first {s : ByteArray} (h : 0 < s.size) (hl : letB s[0] = false) : nameB s = false := by simp [nameB, nameB_first h, hl]
theorem name_byte {s : ByteArray} {i : Nat} (h : i < s.size) (hl : nmB s[i] = false) : nameB s = false := by
  unfold nameB
  have : s.data.toList.all nmB = false := by
    rw [Bool.eq_false_iff]; intro hh; rw [all_upto] at hh; rw [hh i h] at hl; cases hl
  rw [this]; simp
theorem name_yes {s : ByteArray} (h : 1 ≤ s.size ∧ s.size ≤ 24) (hl : letB s[0] = true) (ha : ∀ i (h : i < s.size), nmB s[i] = true) : nameB s = true := by
  unfold nameB
  rw [nameB_first h.1, hl, all_upto.2 ha]; simp [h]
set_option maxHeartbeats 400000 in
theorem name_any {s : ByteArray} {w : World} (hs : s.size ≤ maxLen) :
    Calls Try.prog 82 #[.string s] w fun e w' => e = .returned (.bool (nameB s)) ∧ w' = w := by
  unfold maxLen at hs
  generalize hr : nameB s = r
  have HR := hid hr
  clear hr
  by_cases h1 : s.size < 1
  · have g1 : (s.size : Int) < 1 := by omega
    go_enter Try.func82, Try.ntmps82
    go_wp2
    go_ret
    exact ⟨ret_bool ((name_no (by omega)).symm.trans HR.out), rfl⟩
  · have g1 : ¬ (s.size : Int) < 1 := by omega
    by_cases h2 : 24 < s.size
    · have g2 : (24 : Int) < (s.size : Int) := by omega
      go_enter Try.func82, Try.ntmps82
      go_wp2
      go_ret
      exact ⟨ret_bool ((name_no (by omega)).symm.trans HR.out), rfl⟩
    · have g2 : ¬ (24 : Int) < (s.size : Int) := by omega
      have h0 : 0 < s.size := by omega
      cases hl : letB s[0] with
      | false =>
        go_enter Try.func82, Try.ntmps82
        go_wp2_with (go_at_call 102; refine isLetter_any.mono ?_; rintro e w' ⟨rfl, rfl⟩)
        go_ret
        exact ⟨ret_bool ((name_first (by omega) hl).symm.trans HR.out), rfl⟩
      | true =>
        go_enter Try.func82, Try.ntmps82
        go_wp2_with (go_at_call 102; refine isLetter_any.mono ?_; rintro e w' ⟨rfl, rfl⟩)
        go_loopw [20] (fun i wr => ∃ k : Nat, k ≤ s.size ∧ i = .int .i64 k ∧ wr = w' ∧ Hid (∀ i (h : i < s.size), i < k → nmB s[i] = true)) (fun i _ => s.size - (intOf i).toNat)
        case atStart => exact ⟨0, by omega, rfl, rfl, fun i _ h => absurd h (Nat.not_lt_zero _)⟩
        case round =>
          obtain ⟨k, hk, rfl, rfl, HA⟩ := hrel
          by_cases hlt : k < s.size
          · cases hb : nmB s[k] with
            | true =>
              go_wp2_with (go_at_call 103; refine isNameByte_any.mono ?_; rintro e w' ⟨rfl, rfl⟩)
              go_roundw
              case rel =>
                refine ⟨k + 1, by omega, by go_num, by trivial, fun i h hi => ?_⟩
                by_cases e : i = k
                · subst e; exact hb
                · exact HA.out i h (by omega)
              case measure => simp [intOf]; omega
            | false =>
              go_wp2_with (go_at_call 103; refine isNameByte_any.mono ?_; rintro e w' ⟨rfl, rfl⟩)
              go_ret
              exact ⟨ret_bool ((name_byte hlt hb).symm.trans HR.out), rfl⟩
          · have hks : k = s.size := by omega
            subst hks
            go_wp2
            go_ret
            exact ⟨ret_bool ((name_yes (by omega) hl (fun i h => HA.out i h h)).symm.trans HR.out), rfl⟩
set_option maxHeartbeats 400000 in
theorem rname_any {s : ByteArray} {w : World} (hs : s.size ≤ maxLen) :
    Calls Try.prog 69 #[.string s] w fun e w' => e = .returned (.bool (nameB s)) ∧ w' = w := by
  unfold maxLen at hs
  generalize hr : nameB s = r
  have HR := hid hr
  clear hr
  by_cases h1 : s.size < 1
  · have g1 : (s.size : Int) < 1 := by omega
    go_enter Try.func69, Try.ntmps69
    go_wp2
    go_ret
    exact ⟨ret_bool ((name_no (by omega)).symm.trans HR.out), rfl⟩
  · have g1 : ¬ (s.size : Int) < 1 := by omega
    by_cases h2 : 24 < s.size
    · have g2 : (24 : Int) < (s.size : Int) := by omega
      go_enter Try.func69, Try.ntmps69
      go_wp2
      go_ret
      exact ⟨ret_bool ((name_no (by omega)).symm.trans HR.out), rfl⟩
    · have g2 : ¬ (24 : Int) < (s.size : Int) := by omega
      have h0 : 0 < s.size := by omega
      cases hl : letB s[0] with
      | false =>
        have hl' := hl
        unfold letB at hl'
        have hlow : (s[0].toNat : Int) < 97 ∨ (¬ (s[0].toNat : Int) < 97 ∧ (122 : Int) < (s[0].toNat : Int)) := by simp at hl'; omega
        clear hl'
        have HL := hid hl
        clear hl
        rcases hlow with h3 | ⟨h3, h4⟩
        all_goals
          go_enter Try.func69, Try.ntmps69
          go_wp2
          go_ret
          exact ⟨ret_bool ((name_first (by omega) HL.out).symm.trans HR.out), rfl⟩
      | true =>
        have hl' := hl
        unfold letB at hl'
        have h3 : ¬ (s[0].toNat : Int) < 97 := by simp at hl'; omega
        have h4 : ¬ (122 : Int) < (s[0].toNat : Int) := by simp at hl'; omega
        clear hl'
        have HL := hid hl
        clear hl
        go_enter Try.func69, Try.ntmps69
        go_wp2
        go_loopw [3] (fun i wr => ∃ k : Nat, k ≤ s.size ∧ i = .int .i64 k ∧ wr = w ∧ Hid (∀ i (h : i < s.size), i < k → nmB s[i] = true)) (fun i _ => s.size - (intOf i).toNat)
        case atStart => exact ⟨0, by omega, rfl, rfl, fun i _ h => absurd h (Nat.not_lt_zero _)⟩
        case round =>
          obtain ⟨k, hk, rfl, rfl, HA⟩ := hrel
          by_cases hlt : k < s.size
          · cases hb : nmB s[k] with
            | true =>
              have hb' := hb
              unfold nmB letB at hb'
              simp only [Bool.or_eq_true, Bool.and_eq_true, decide_eq_true_eq] at hb'
              have HB := hid hb
              clear hb
              have hq : ((97 : Int) ≤ (s[k].toNat : Int) ∧ (s[k].toNat : Int) ≤ 122) ∨ ((s[k].toNat : Int) < 97 ∧ (48 : Int) ≤ (s[k].toNat : Int) ∧ (s[k].toNat : Int) ≤ 57) ∨ (s[k].toNat : Int) = 95 ∨ (s[k].toNat : Int) = 35 := by omega
              clear hb'
              rcases hq with ⟨q1, q2⟩ | ⟨q1, q2, q3⟩ | q1 | q1
              all_goals
                go_wp2
                go_roundw
                case rel =>
                  refine ⟨k + 1, by omega, by go_num, by trivial, fun i h hi => ?_⟩
                  by_cases e : i = k
                  · subst e; exact HB.out
                  · exact HA.out i h (by omega)
                case measure => simp [intOf]; omega
            | false =>
              have hb' := hb
              unfold nmB letB at hb'
              simp only [Bool.or_eq_false_iff, Bool.and_eq_false_iff, decide_eq_false_iff_not] at hb'
              have HB := hid hb
              clear hb
              have q5 : ((s[k].toNat : Int) == 95) = false := by rw [Bool.eq_false_iff]; intro e; have := beq_iff_eq.1 e; omega
              have q6 : ((s[k].toNat : Int) == 35) = false := by rw [Bool.eq_false_iff]; intro e; have := beq_iff_eq.1 e; omega
              have hq : (decide ((s[k].toNat : Int) ≤ 122) = false ∧ decide ((s[k].toNat : Int) ≤ 57) = false ∧ decide ((97 : Int) ≤ (s[k].toNat : Int)) = true ∧ decide ((48 : Int) ≤ (s[k].toNat : Int)) = true) ∨ (decide ((97 : Int) ≤ (s[k].toNat : Int)) = false ∧ decide ((48 : Int) ≤ (s[k].toNat : Int)) = true ∧ decide ((s[k].toNat : Int) ≤ 57) = false) ∨ (decide ((97 : Int) ≤ (s[k].toNat : Int)) = false ∧ decide ((48 : Int) ≤ (s[k].toNat : Int)) = false) := by simp only [decide_eq_false_iff_not, decide_eq_true_eq]; omega
              clear hb'
              rcases hq with ⟨q1, q2, q3, q4⟩ | ⟨q1, q2, q3⟩ | ⟨q1, q2⟩
              all_goals
                go_wp2
                go_ret
                exact ⟨ret_bool ((name_byte hlt HB.out).symm.trans HR.out), rfl⟩
          · have hks : k = s.size := by omega
            subst hks
            go_wp2
            go_ret
            exact ⟨ret_bool ((name_yes (by omega) HL.out (fun i h => HA.out i h h)).symm.trans HR.out), rfl⟩
end Go.Proofs.Ytjekpclbedbaoaa.TN
