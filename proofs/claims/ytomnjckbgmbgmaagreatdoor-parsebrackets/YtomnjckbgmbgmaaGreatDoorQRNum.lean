/-
  What the reference's number returns of digits.
-/
import Derived.Test.YtomnjckbgmbgmaaGreatDoorQRSign
namespace Go.Proofs.YtomnjckbgmbgmaaGreatDoor
open Go.RowKit Go.Joins
/-- What is read: the number, and whether it is one. -/
def RNumP (ng : Bool) (v : Nat) (w : World) (e : Ending) (w' : World) : Prop :=
  (∃ x : Int, e = .returned (.tuple #[.int .i64 x, .bool (numV ng v).isSome]) ∧ ∀ y, numV ng v = some y → x = y) ∧ w' = w
theorem dval_step (ds : List UInt8) (k : Nat) (h : k < ds.length) : dval (ds.take (k + 1)) = dstep (dval (ds.take k)) ds[k] := by
  unfold dval
  rw [List.take_succ_eq_append_getElem h, dvalF_append, dvalF_cons, dvalF_nil]
theorem dval_le (ds : List UInt8) (k : Nat) : dval (ds.take k) ≤ dval ds := by
  have h : ds.take k ++ ds.drop k = ds := List.take_append_drop k ds
  unfold dval
  conv => rhs; rw [← h, dvalF_append]
  exact dvalF_acc _ _
theorem tdiv_is (d : Nat) (hd : d ≤ 9) : (-9223372036854775808 + (d : Int)).tdiv 10 = -(((9223372036854775808 - d) / 10 : Nat) : Int) := by
  have h2 := Int.neg_tdiv (9223372036854775808 - (d : Int)) 10
  have h3 := Int.tdiv_eq_ediv_of_nonneg (a := 9223372036854775808 - (d : Int)) (b := 10) (by omega)
  have h4 : -(9223372036854775808 - (d : Int)) = -9223372036854775808 + (d : Int) := by omega
  rw [h4] at h2
  rw [h2, h3]
  omega
theorem numV_no (ng : Bool) (v : Nat) (h : 9223372036854775808 < v) : numV ng v = none := by
  cases ng
  · exact numV_fn v (by omega)
  · exact numV_tn v (by omega)
set_option maxRecDepth 100000 in
set_option maxHeartbeats 1000000 in
theorem rnum_t (ds : List UInt8) (hd : ∀ x ∈ ds, isDg x = true) (hne : 0 < ds.length) (hl : (ds.length : Int) ≤ 140737488355328) (w : World) : Calls Tryz.prog 70 #[.string (St (45 :: ds))] w (RNumP true (dval ds) w) := by
  have hsd := St_size ds
  have hneI : 0 < (ds.length : Int) := by omega
  have HD := hid hd
  clear hd
  have HV := hid (dval_le ds)
  have HE := hid (show dval (ds.take ds.length) = dval ds by rw [List.take_length])
  have HN := hid (numV_no true (dval ds))
  have HSt := hid (dval_step ds)
  generalize dval ds = v at *
  have hi0 := idx (45 :: ds) 0 (by simp)
  simp only [Int.natCast_zero, List.getElem_cons_zero, show (UInt8.toNat 45) = 45 from rfl] at hi0
  have hsl := slF (45 :: ds) 1 (by simp)
  simp only [List.drop_succ_cons, List.drop_zero, show ((1 : Nat) : Int) = 1 from rfl] at hsl
  have hs45 := St_size (45 :: ds)
  have h45l : (45 :: ds).length = ds.length + 1 := rfl
  rw [h45l] at hs45
  go_enter Tryz.func70, Tryz.ntmps70
  go_wp2_with fail
  go_loopw [4, 6] (fun n i wr => ∃ (k u : Nat), (k : Int) ≤ ds.length ∧ i = .int .i64 k ∧ n = .int .i64 (-(u : Int)) ∧ Hid (u = dval (ds.take k)) ∧ Hid (u ≤ 9223372036854775808) ∧ w = wr) (fun _ i _ => ds.length - (intOf i).toNat)
  case atStart => exact ⟨0, 0, by omega, rfl, rfl, by show _ = _; rfl, by show _ ≤ _; omega, rfl⟩
  case round =>
    obtain ⟨k, u, hk, rfl, rfl, HU, HLe, hw⟩ := hrel
    subst hw
    by_cases hlt : k < ds.length
    · have hi := idx ds k hlt
      have hkI : (k : Int) < ds.length := by omega
      have hcd := HD.out ds[k] (List.getElem_mem _)
      have hst := HSt.out k hlt
      generalize ds[k] = c at *
      simp [isDg] at hcd
      obtain ⟨d, hd⟩ : ∃ d : Nat, c.toNat = 48 + d := ⟨c.toNat - 48, by omega⟩
      have hd9 : d ≤ 9 := by omega
      have hst2 : dval (ds.take (k + 1)) = u * 10 + d := by rw [hst, ← HU.out]; unfold dstep; omega
      have HST := hid hst2
      have hdI : (c.toNat : Int) = 48 + (d : Int) := by omega
      have htd := tdiv_is d hd9
      obtain ⟨m, hm⟩ : ∃ m : Nat, (9223372036854775808 - d) / 10 = m := ⟨_, rfl⟩
      rw [hm] at htd
      have HM := hid hm
      have hd9I : (d : Int) ≤ 9 := by omega
      have hmod : (d : Int) % 256 = d := by omega
      have hdd : (48 : Int) + (d : Int) - 48 = d := by omega
      have hULe := HLe.out
      have hmle : (m : Int) ≤ 922337203685477580 := by omega
      clear hcd hst hst2 hm hd9 hd
      by_cases hov : m < u
      · have hovI : -(u : Int) < -(m : Int) := by omega
        have HNo := hid (HN.out (by have h1 := HV.out (k + 1); rw [HST.out] at h1; have := HM.out; omega))
        have hovI2 : (m : Int) < u := by omega
        clear hULe
        go_wp2_with fail
        refine bodyPost_ret (v := .tuple #[.int .i64 0, .bool false]) (by simp [results, Tryz.results70, go_sem]) rfl ⟨⟨0, ?_, ?_⟩, rfl⟩
        · rw [HNo.out]; rfl
        · intro y hy; rw [HNo.out] at hy; cases hy
      · have hovI : ¬ -(u : Int) < -(m : Int) := by omega
        have hovI2 : ¬ (m : Int) < u := by omega
        have hb1 : (u : Int) * 10 + d ≤ 9223372036854775808 := by have := HM.out; omega
        clear hULe
        go_wp2_with fail
        go_roundw
        case rel =>
          refine ⟨k + 1, u * 10 + d, by omega, by go_num, ?_, ?_, ?_, by first | rfl | trivial⟩
          · congr 1; omega
          · show _ = _; rw [HST.out]
          · show _ ≤ _; omega
        case measure => simp [intOf]; omega
    · have hkk : k = ds.length := by omega
      subst hkk
      have huv : u = v := by rw [HU.out, HE.out]
      subst huv
      have hfin : numV true u = some (-(u : Int)) := numV_t u (by have := HLe.out; omega)
      have HF := hid hfin
      clear hfin
      go_wp2_with fail
      refine bodyPost_ret (v := .tuple #[.int .i64 (-(u : Int)), .bool true]) (by simp [results, Tryz.results70, go_sem]) rfl ⟨⟨-(u : Int), ?_, ?_⟩, rfl⟩
      · rw [HF.out]; rfl
      · intro y hy; rw [HF.out] at hy; cases hy; rfl
set_option maxRecDepth 100000 in
set_option maxHeartbeats 1000000 in
theorem rnum_f (ds : List UInt8) (hd : ∀ x ∈ ds, isDg x = true) (hne : 0 < ds.length) (hl : (ds.length : Int) ≤ 140737488355328) (w : World) : Calls Tryz.prog 70 #[.string (St ds)] w (RNumP false (dval ds) w) := by
  have hsd := St_size ds
  have hneI : 0 < (ds.length : Int) := by omega
  have HD := hid hd
  clear hd
  have HV := hid (dval_le ds)
  have HE := hid (show dval (ds.take ds.length) = dval ds by rw [List.take_length])
  have HN := hid (numV_no false (dval ds))
  have HSt := hid (dval_step ds)
  generalize dval ds = v at *
  have hi0 := idx ds 0 hne
  simp only [Int.natCast_zero] at hi0
  have hc0 : ¬ ((ds[0].toNat : Nat) : Int) = 45 := by
    have := HD.out ds[0] (List.getElem_mem _)
    simp [isDg] at this; omega
  have hb45 : (((ds[0].toNat : Nat) : Int) == 45) = false := beq_eq_false_iff_ne.2 hc0
  generalize ds[0] = c0 at *
  go_enter Tryz.func70, Tryz.ntmps70
  go_wp2_with fail
  go_loopw [4, 6] (fun n i wr => ∃ (k u : Nat), (k : Int) ≤ ds.length ∧ i = .int .i64 k ∧ n = .int .i64 (-(u : Int)) ∧ Hid (u = dval (ds.take k)) ∧ Hid (u ≤ 9223372036854775808) ∧ w = wr) (fun _ i _ => ds.length - (intOf i).toNat)
  case atStart => exact ⟨0, 0, by omega, rfl, rfl, by show _ = _; rfl, by show _ ≤ _; omega, rfl⟩
  case round =>
    obtain ⟨k, u, hk, rfl, rfl, HU, HLe, hw⟩ := hrel
    subst hw
    by_cases hlt : k < ds.length
    · have hi := idx ds k hlt
      have hkI : (k : Int) < ds.length := by omega
      have hcd := HD.out ds[k] (List.getElem_mem _)
      have hst := HSt.out k hlt
      generalize ds[k] = c at *
      simp [isDg] at hcd
      obtain ⟨d, hd⟩ : ∃ d : Nat, c.toNat = 48 + d := ⟨c.toNat - 48, by omega⟩
      have hd9 : d ≤ 9 := by omega
      have hst2 : dval (ds.take (k + 1)) = u * 10 + d := by rw [hst, ← HU.out]; unfold dstep; omega
      have HST := hid hst2
      have hdI : (c.toNat : Int) = 48 + (d : Int) := by omega
      have htd := tdiv_is d hd9
      obtain ⟨m, hm⟩ : ∃ m : Nat, (9223372036854775808 - d) / 10 = m := ⟨_, rfl⟩
      rw [hm] at htd
      have HM := hid hm
      have hd9I : (d : Int) ≤ 9 := by omega
      have hmod : (d : Int) % 256 = d := by omega
      have hdd : (48 : Int) + (d : Int) - 48 = d := by omega
      have hULe := HLe.out
      have hmle : (m : Int) ≤ 922337203685477580 := by omega
      clear hcd hst hst2 hm hd9 hd
      by_cases hov : m < u
      · have hovI : -(u : Int) < -(m : Int) := by omega
        have HNo := hid (HN.out (by have h1 := HV.out (k + 1); rw [HST.out] at h1; have := HM.out; omega))
        have hovI2 : (m : Int) < u := by omega
        clear hULe
        go_wp2_with fail
        refine bodyPost_ret (v := .tuple #[.int .i64 0, .bool false]) (by simp [results, Tryz.results70, go_sem]) rfl ⟨⟨0, ?_, ?_⟩, rfl⟩
        · rw [HNo.out]; rfl
        · intro y hy; rw [HNo.out] at hy; cases hy
      · have hovI : ¬ -(u : Int) < -(m : Int) := by omega
        have hovI2 : ¬ (m : Int) < u := by omega
        have hb1 : (u : Int) * 10 + d ≤ 9223372036854775808 := by have := HM.out; omega
        clear hULe
        go_wp2_with fail
        go_roundw
        case rel =>
          refine ⟨k + 1, u * 10 + d, by omega, by go_num, ?_, ?_, ?_, by first | rfl | trivial⟩
          · congr 1; omega
          · show _ = _; rw [HST.out]
          · show _ ≤ _; omega
        case measure => simp [intOf]; omega
    · have hkk : k = ds.length := by omega
      subst hkk
      have huv : u = v := by rw [HU.out, HE.out]
      subst huv
      rcases Nat.lt_or_ge u 9223372036854775808 with h9 | h9
      · have HF := hid (numV_f u h9)
        have hg1 : -9223372036854775807 ≤ -(u : Int) := by omega
        have hg2 : (-9223372036854775808 : Int) < -(u : Int) := by omega
        clear h9
        go_wp2_with fail
        refine bodyPost_ret (v := .tuple #[.int .i64 (u : Int), .bool true]) (by simp [results, Tryz.results70, go_sem]) rfl ⟨⟨(u : Int), ?_, ?_⟩, rfl⟩
        · rw [HF.out]; rfl
        · intro y hy; rw [HF.out] at hy; cases hy; rfl
      · have hv9 : u = 9223372036854775808 := by have := HLe.out; omega
        have HF := hid (numV_fn u (by omega))
        have hvI : -(u : Int) = -9223372036854775808 := by omega
        clear h9
        go_wp2_with fail
        refine bodyPost_ret (v := .tuple #[.int .i64 (wrap64 9223372036854775808), .bool false]) (by simp [results, Tryz.results70, go_sem]) rfl ⟨⟨wrap64 9223372036854775808, ?_, ?_⟩, rfl⟩
        · rw [HF.out]; rfl
        · intro y hy; rw [HF.out] at hy; cases hy
theorem rnum_any (ng : Bool) (ds : List UInt8) (hd : ∀ x ∈ ds, isDg x = true) (hne : 0 < ds.length) (hl : (ds.length : Int) ≤ 140737488355328) (w : World) : Calls Tryz.prog 70 #[.string (St (sgnL ng ++ ds))] w (RNumP ng (dval ds) w) := by
  cases ng
  · exact rnum_f ds hd hne hl w
  · exact rnum_t ds hd hne hl w
end Go.Proofs.YtomnjckbgmbgmaaGreatDoor
