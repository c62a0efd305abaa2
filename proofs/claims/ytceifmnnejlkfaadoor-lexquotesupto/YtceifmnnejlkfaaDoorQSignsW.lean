/-
  What LexSigns returns.
-/
import Derived.Test.YtceifmnnejlkfaaDoorQShown
import Derived.Deep.DeepCutAuto
namespace Go.Proofs.YtceifmnnejlkfaaDoor
open Go.RowKit Go.Joins

def law2 : List (List UInt8) := [[124], [44], [40], [41], [58], [61], [33, 61], [60], [60, 61], [62], [62, 61]]
abbrev sgn2 (i : Nat) : List UInt8 := law2.getD i []
theorem sg_len (i : Nat) : (sgn2 i).length ≤ 2 := by
  rcases Nat.lt_or_ge i 11 with h | h
  · have : ∀ j : Fin 11, (sgn2 j.1).length ≤ 2 := by decide
    exact this ⟨i, h⟩
  · have : sgn2 i = [] := by unfold sgn2; rw [List.getD_eq_getElem?_getD, List.getElem?_eq_none (by simp [law2]; omega)]; rfl
    rw [this]; decide
theorem sg_apart : ∀ (i j : Fin 11), lexO (sgn2 i.1 ++ [32] ++ sgn2 j.1) = ([⟨4, sgn2 i.1, 0, 0⟩, ⟨4, sgn2 j.1, 0, (sgn2 i.1).length + 1⟩], 0, 0) := by decide +kernel
def longer (x y : List UInt8) : Bool := (x == [60] || x == [62]) && y == [61]
theorem sg_near : ∀ (i j : Fin 11), lexO (sgn2 i.1 ++ sgn2 j.1) = (if longer (sgn2 i.1) (sgn2 j.1) then ([⟨4, sgn2 i.1 ++ sgn2 j.1, 0, 0⟩], 0, 0) else ([⟨4, sgn2 i.1, 0, 0⟩, ⟨4, sgn2 j.1, 0, (sgn2 i.1).length⟩], 0, 0)) := by decide +kernel
theorem St_cat (x y : List UInt8) : St x ++ St y = St (x ++ y) := by
  unfold St
  apply ByteArray.ext
  simp [ByteArray.data_append]
abbrev lawC : Array Value := #[.string ⟨#[124]⟩, .string ⟨#[44]⟩, .string ⟨#[40]⟩, .string ⟨#[41]⟩, .string ⟨#[58]⟩, .string ⟨#[61]⟩, .string ⟨#[33, 61]⟩, .string ⟨#[60]⟩, .string ⟨#[60, 61]⟩, .string ⟨#[62]⟩, .string ⟨#[62, 61]⟩]
theorem lawC_at (i : Nat) (h : i < 11) : lawC[i]? = some (.string (St (sgn2 i))) := by
  match i, h with
  | 0, _ => rfl
  | 1, _ => rfl
  | 2, _ => rfl
  | 3, _ => rfl
  | 4, _ => rfl
  | 5, _ => rfl
  | 6, _ => rfl
  | 7, _ => rfl
  | 8, _ => rfl
  | 9, _ => rfl
  | 10, _ => rfl
theorem law_cell (w : World) (i : Nat) (h : i < 11) : (w.alloc (.cells lawC 9)).cell? ⟨w.heap.size, i, none⟩ = some (.string (St (sgn2 i))) := by
  rw [block_cell (alloc_block w _) i, lawC_at i h]
theorem St_eqL (l p : List UInt8) : ((St l).toList == p) = (l == p) := by
  have h := St_eq l p
  rwa [show (St p).toList = p by rw [ByteArray.toList_eq]; exact St_toList p] at h
set_option maxRecDepth 100000 in
set_option maxHeartbeats 1000000 in
theorem signs_any (a b : Int) (ha : -9223372036854775808 ≤ a ∧ a ≤ 9223372036854775807) (hb : -9223372036854775808 ≤ b ∧ b ≤ 9223372036854775807) (w : World) (hG : Gd w) : Calls Tryd.prog 8 #[.int .i64 a, .int .i64 b] w fun e w' => e = .returned (.bool true) ∧ Below w.heap.size w w' := by
  obtain ⟨ha1, ha2⟩ := ha
  obtain ⟨hb1, hb2⟩ := hb
  go_enter Tryd.func8, Tryd.ntmps8
  go_upto_if 19 with (go_at_call 9; refine (shown_any _ hG).mono ?_; rintro e w1 ⟨rfl, hbw⟩; have B1 := hid hbw; have G1 := hid (hG.next hbw); clear hbw)
  go_cut [0] from 18 to 22 (fun v wx => ∃ A : Int, v = .int .i64 A ∧ 0 ≤ A ∧ A ≤ 9223372036854775807 ∧ wx = w1.alloc (.cells lawC 9))
  case first =>
    by_cases h1 : a < 0
    · go_wp2
      go_meet
      exact ⟨_, rfl, by omega, by omega, rfl⟩
    · go_wp2
      go_meet
      exact ⟨a, rfl, by omega, by omega, rfl⟩
  case rest =>
    obtain ⟨A, rfl, hA1, hA2, hwc⟩ := hcut
    subst hwc
    go_upto_if 24 with fail
    go_cut [1] from 23 to 27 (fun v wx => ∃ A : Int, v = .int .i64 A ∧ 0 ≤ A ∧ A ≤ 9223372036854775807 ∧ wx = w1.alloc (.cells lawC 9))
    case first =>
      by_cases h1 : b < 0
      · go_wp2
        go_meet
        exact ⟨_, rfl, by omega, by omega, rfl⟩
      · go_wp2
        go_meet
        exact ⟨b, rfl, by omega, by omega, rfl⟩
    case rest =>
      obtain ⟨B, rfl, hB1, hB2, hwc⟩ := hcut
      subst hwc
      clear ha1 ha2 hb1 hb2
      obtain ⟨i, hi⟩ : ∃ i : Nat, A % 11 = (i : Int) := ⟨(A % 11).toNat, by omega⟩
      obtain ⟨j, hj⟩ : ∃ j : Nat, B % 11 = (j : Int) := ⟨(B % 11).toNat, by omega⟩
      have hi11 : (i : Int) < 11 := by omega
      have hj11 : (j : Int) < 11 := by omega
      have ci := law_cell w1 i (by omega)
      have cj := law_cell w1 j (by omega)
      have HAp := hid (sg_apart ⟨i, by omega⟩ ⟨j, by omega⟩)
      have HNr := hid (sg_near ⟨i, by omega⟩ ⟨j, by omega⟩)
      have hlx := sg_len i
      have hly := sg_len j
      simp only at HAp HNr
      generalize sgn2 i = x at *
      generalize sgn2 j = y at *
      have hsx := St_size x
      have hsy := St_size y
      have k1 : St x ++ ⟨#[32]⟩ = St (x ++ [32]) := St_cat x [32]
      have k2 := St_cat (x ++ [32]) y
      have k3 := St_cat x y
      have hsp := St_size (x ++ [32])
      have e60 := St_eqL x [60]
      have e62 := St_eqL x [62]
      have e61 := St_eqL y [61]
      have hl1 : (x ++ [32]).length = x.length + 1 := by simp
      rw [hl1] at hsp
      have hq1 : ((x ++ [32] ++ y).length : Int) ≤ 140737488355328 := by simp; omega
      have hq2 : ((x ++ y).length : Int) ≤ 140737488355328 := by simp; omega
      have HQ1 := hid hq1
      have HQ2 := hid hq2
      have HLX := hid hlx
      clear hq1 hq2 hl1
      generalize x ++ [32] ++ y = q at *
      generalize x ++ [32] = p at *
      have hk3 := HNr.out
      have M1 : Hid True := hid trivial
      have hxI : (x.length : Int) ≤ 2 := by omega
      have hyI : (y.length : Int) ≤ 2 := by omega
      clear hk3 hlx hly
      cases hlg : longer x y with
      | true =>
        rw [hlg] at HNr
        have HN2 := hid (show lexO (x ++ y) = ([⟨4, x ++ y, 0, 0⟩], 0, 0) from HNr.out)
        go_upto_if 81 with (first
        | (go_at_call 10; clear M1; refine (lex_is HAp.out HQ1.out _ (G1.out.alloc _)).mono ?_; unfold LexIs; rintro e w2 ⟨v2, rfl, ht2, hb2⟩; have T2 := hid ht2; have B2 := hid (below_on (B1.out.alloc B1.out.size _) hb2); have G2 := hid ((G1.out.alloc _).next hb2); clear ht2 hb2 ci cj)
        | (go_at_call 10; refine (lex_is HN2.out HQ2.out _ G2.out).mono ?_; unfold LexIs; rintro e w3 ⟨v3, rfl, ht3, hb3⟩; have T3 := hid ht3; have U2 := hid (T2.out.on hb3); have B3 := hid (below_on B2.out hb3); clear hb3 ht3
           obtain ⟨g2, cap2, rfl, R2⟩ := U2.out.formNe (by simp)
           obtain ⟨g3, cap3, rfl, R3⟩ := T3.out.formNe (by simp)
           obtain ⟨m00, m01, m02, m03⟩ := R2 0 (by simp)
           obtain ⟨m10, m11, m12, m13⟩ := R2 1 (by simp)
           obtain ⟨n00, n01, n02, n03⟩ := R3 0 (by simp)
           clear R2 R3 T3 U2
           simp at m01 m11 n01))
        unfold longer at hlg
        generalize (x == [60]) = b1 at *
        generalize (x == [62]) = b2 at *
        generalize (y == [61]) = b3 at *
        cases b1 <;> cases b2 <;> cases b3 <;> simp at hlg
        all_goals
          go_wp2
          go_ret
          exact ⟨rfl, B3.out⟩
      | false =>
        rw [hlg] at HNr
        have HN2 := hid (show lexO (x ++ y) = ([⟨4, x, 0, 0⟩, ⟨4, y, 0, x.length⟩], 0, 0) from HNr.out)
        go_upto_if 81 with (first
        | (go_at_call 10; clear M1; refine (lex_is HAp.out HQ1.out _ (G1.out.alloc _)).mono ?_; unfold LexIs; rintro e w2 ⟨v2, rfl, ht2, hb2⟩; have T2 := hid ht2; have B2 := hid (below_on (B1.out.alloc B1.out.size _) hb2); have G2 := hid ((G1.out.alloc _).next hb2); clear ht2 hb2 ci cj)
        | (go_at_call 10; refine (lex_is HN2.out HQ2.out _ G2.out).mono ?_; unfold LexIs; rintro e w3 ⟨v3, rfl, ht3, hb3⟩; have T3 := hid ht3; have U2 := hid (T2.out.on hb3); have B3 := hid (below_on B2.out hb3); clear hb3 ht3
           obtain ⟨g2, cap2, rfl, R2⟩ := U2.out.formNe (by simp)
           obtain ⟨g3, cap3, rfl, R3⟩ := T3.out.formNe (by simp)
           obtain ⟨m00, m01, m02, m03⟩ := R2 0 (by simp)
           obtain ⟨m10, m11, m12, m13⟩ := R2 1 (by simp)
           obtain ⟨n00, n01, n02, n03⟩ := R3 0 (by simp)
           obtain ⟨n10, n11, n12, n13⟩ := R3 1 (by simp)
           clear R2 R3 T3 U2
           simp at m01 m11 n01 n11 n13))
        unfold longer at hlg
        generalize (x == [60]) = b1 at *
        generalize (x == [62]) = b2 at *
        generalize (y == [61]) = b3 at *
        cases b1 <;> cases b2 <;> cases b3 <;> simp at hlg
        all_goals
          go_wp2
          go_ret
          exact ⟨rfl, B3.out⟩
end Go.Proofs.YtceifmnnejlkfaaDoor
