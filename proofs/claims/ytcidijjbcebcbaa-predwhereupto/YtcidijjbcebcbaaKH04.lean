/-
  What the reference's sign returns.
  What the reference's number returns of digits.
  What the reference's text returns.
  What the reference says of a byte.
  What the reference's one returns: a word, a text, a sign.
-/
import Derived.Test.YtcidijjbcebcbaaKH01
import Derived.Test.YtcidijjbcebcbaaKH03
namespace Go.Proofs.Ytcidijjbcebcbaa
open Go.RowKit Go.Joins
def sgnOf (l : List UInt8) : List UInt8 := match signS l with | some (t, _) => t.s | none => []
abbrev twoC : Array Value := #[.string ⟨#[33, 61]⟩, .string ⟨#[60, 61]⟩, .string ⟨#[62, 61]⟩]
theorem twoC_at (i : Nat) (h : i < 3) : twoC[i]? = some (.string (St (signsL.getD i []))) := by
  match i, h with
  | 0, _ => rfl
  | 1, _ => rfl
  | 2, _ => rfl
theorem two_cell (w : World) (i : Nat) (h : i < 3) : (w.alloc (.cells twoC 9)).cell? ⟨w.heap.size, i, none⟩ = some (.string (St (signsL.getD i []))) := by
  rw [block_cell (alloc_block w _) i, twoC_at i h]
def oneL : List UInt8 := [124, 44, 40, 41, 58, 61, 60, 62]
theorem one_idx (i : Nat) (h : i < 8) (w : World) : (Instr.index 9 (.string ⟨#[124, 44, 40, 41, 58, 61, 60, 62]⟩) (.int .i64 (i : Int))).run Try.prog w = .ok (.int .u8 ((oneL.getD i 0).toNat : Int)) w := by
  have := idx oneL i h w
  rw [List.getD_eq_getElem?_getD, List.getElem?_eq_getElem (show i < oneL.length from h)]
  exact this
theorem one_is (i : Nat) (h : i < 8) : signsL.getD (3 + i) [] = [oneL.getD i 0] := by
  match i, h with
  | 0, _ => rfl
  | 1, _ => rfl
  | 2, _ => rfl
  | 3, _ => rfl
  | 4, _ => rfl
  | 5, _ => rfl
  | 6, _ => rfl
  | 7, _ => rfl
theorem two_len (i : Nat) (h : i < 3) : (signsL.getD i []).length = 2 := by
  match i, h with
  | 0, _ => rfl
  | 1, _ => rfl
  | 2, _ => rfl
theorem sgnOf_yes {l x : List UInt8} {n : Nat} (h : signS l = some (⟨4, x, 0, 0⟩, n)) : sgnOf l = x := by unfold sgnOf; rw [h]
theorem sgnOf_no {l : List UInt8} (h : signS l = none) : sgnOf l = [] := by unfold sgnOf; rw [h]
theorem below_a {w w' : World} {o : Obj} (h : Below (w.alloc o).heap.size (w.alloc o) w') : Below w.heap.size w w' := ((Below.refl _ w).alloc (Nat.le_refl _) o).trans (h.mono (by simp))
theorem pre_one {c d : UInt8} {r : List UInt8} : [d].isPrefixOf (c :: r) = (d == c) := by simp [List.isPrefixOf]
set_option maxRecDepth 100000 in
set_option maxHeartbeats 1000000 in
theorem rsign_any (l : List UInt8) (hl : (l.length : Int) ≤ 140737488355328) (h1 : 0 < l.length) (w : World) : Calls Try.prog 85 #[.string (St l)] w fun e w' => e = .returned (.string (St (sgnOf l))) ∧ Below w.heap.size w w' := by
  have hsz := St_size l
  have h1I : 0 < (l.length : Int) := by omega
  have HC := hid (two_cell w)
  go_enter Try.func85, Try.ntmps85
  go_wp2_with fail
  go_loopw [4] (fun i wr => ∃ k : Nat, (k : Int) ≤ 3 ∧ i = .int .i64 k ∧ Hid (∀ i, i < k → (signsL.getD i []).isPrefixOf l = false) ∧ Hid (Below (w.alloc (.cells twoC 9)).heap.size (w.alloc (.cells twoC 9)) wr)) (fun i _ => 3 - (intOf i).toNat)
  case atStart => exact ⟨0, by omega, rfl, fun i hi => by omega, Below.refl _ _⟩
  case round =>
    obtain ⟨k, hk, rfl, HA, HB⟩ := hrel
    by_cases hlt : k < 3
    · have hkI : (k : Int) < 3 := by omega
      have hcell : wr.cell? ⟨w.heap.size, k, none⟩ = some (.string (St (signsL.getD k []))) := (HB.out.cell (p := ⟨w.heap.size, k, none⟩) (by simp)).trans (HC.out k hlt)
      have hpi := pre_is l (signsL.getD k [])
      have hx2 := two_len k hlt
      rw [hx2] at hpi
      have HY := hid (@sign_yes l k (by omega) HA.out)
      have HPI := hid hpi
      clear hpi
      generalize hx : signsL.getD k [] = x at *
      have HX := hid hx
      clear hx
      by_cases h2 : 2 ≤ l.length
      · have h2I : (2 : Int) ≤ l.length := by omega
        have hs := slT l 2 h2
        simp only [show ((2 : Nat) : Int) = 2 from rfl] at hs
        have he := St_eq (l.take 2) x
        cases hc : (l.take 2 == x) with
        | true =>
          have hp : x.isPrefixOf l = true := by rw [HPI.out, hc]; simp [h2]
          have HZ := hid (HY.out hp)
          rw [hc] at he
          clear HY hc hp
          go_upto_region 5 with fail
          go_quiet (fail)
          go_wp2_with fail
          go_ret
          exact ⟨by rw [sgnOf_yes HZ.out]; rfl, below_drewN (below_a HB.out) _⟩
        | false =>
          have HNP := hid (show x.isPrefixOf l = false by rw [HPI.out, hc]; simp)
          rw [hc] at he
          clear HY hc
          go_upto_region 5 with fail
          go_quiet (fail)
          go_wp2_with fail
          go_roundw
          case rel =>
            refine ⟨k + 1, by omega, by go_num, ?_, below_drewN HB.out _⟩
            intro i hi
            rcases Nat.lt_or_ge i k with h | h
            · exact HA.out i h
            · obtain rfl : i = k := by omega
              rw [HX.out]; exact HNP.out
          case measure => simp [intOf]; omega
      · have HNP := hid (show x.isPrefixOf l = false by rw [HPI.out]; simp [h2])
        have h2I : ¬ (2 : Int) ≤ l.length := by omega
        clear HY
        go_upto_region 5 with fail
        go_quiet (fail)
        go_wp2_with fail
        go_roundw
        case rel =>
          refine ⟨k + 1, by omega, by go_num, ?_, below_drewN HB.out _⟩
          intro i hi
          rcases Nat.lt_or_ge i k with h | h
          · exact HA.out i h
          · obtain rfl : i = k := by omega
            rw [HX.out]; exact HNP.out
        case measure => simp [intOf]; omega
    · have hk3 : k = 3 := by omega
      subst hk3
      have hsz8 : (⟨#[124, 44, 40, 41, 58, 61, 60, 62]⟩ : ByteArray).size = 8 := rfl
      have hi0 := idx l 0 h1
      simp only [Int.natCast_zero] at hi0
      have hs := slT l 1 (by omega)
      simp only [show ((1 : Nat) : Int) = 1 from rfl] at hs
      obtain ⟨c, r, hcr⟩ : ∃ c r, l = c :: r := by
        cases l with
        | nil => simp at h1
        | cons c r => exact ⟨c, r, rfl⟩
      have HCR := hid hcr
      have HC0 := hid (show l[0] = c by subst hcr; rfl)
      rw [HC0.out] at hi0
      have HT1 := hid (show l.take 1 = [c] by subst hcr; rfl)
      rw [HT1.out] at hs
      clear hcr
      go_wp2_with fail
      go_loopw [6] (fun i wx => ∃ q : Nat, (q : Int) ≤ 8 ∧ i = .int .i64 q ∧ Hid (∀ i, i < 3 + q → (signsL.getD i []).isPrefixOf l = false) ∧ Hid (Below w.heap.size w wx)) (fun i _ => 8 - (intOf i).toNat)
      case atStart => exact ⟨0, by omega, rfl, HA.out, below_a HB.out⟩
      case round =>
        obtain ⟨q, hq, rfl, HA2, HB2⟩ := hrel
        by_cases hlt2 : q < 8
        · have hqI : (q : Int) < 8 := by omega
          have hio := one_idx q hlt2
          have HY := hid (@sign_yes l (3 + q) (by omega) HA2.out)
          rw [one_is q hlt2] at HY
          have HX := hid (one_is q hlt2)
          generalize oneL.getD q 0 = d at *
          by_cases hcd : c = d
          · subst hcd
            have HZ := hid (HY.out (by rw [HCR.out, pre_one]; simp))
            have hcc : ((c.toNat : Int) == (c.toNat : Int)) = true := by simp
            clear HY
            go_upto_region 11 with fail
            go_quiet (fail)
            go_wp2_with fail
            go_ret
            exact ⟨by rw [sgnOf_yes HZ.out]; rfl, below_drewN HB2.out _⟩
          · have hcc : ¬ (c.toNat : Int) = (d.toNat : Int) := fun e => hcd (UInt8.toNat_inj.1 (by omega))
            have HNP := hid (show [d].isPrefixOf l = false by rw [HCR.out, pre_one]; simp; exact fun e => hcd e.symm)
            clear HY
            go_upto_region 11 with fail
            go_quiet (fail)
            go_wp2_with fail
            go_roundw
            case rel =>
              refine ⟨q + 1, by omega, by go_num, ?_, below_drewN HB2.out _⟩
              intro i hi
              rcases Nat.lt_or_ge i (3 + q) with h | h
              · exact HA2.out i h
              · obtain rfl : i = 3 + q := by omega
                rw [HX.out]; exact HNP.out
            case measure => simp [intOf]; omega
        · have hq8 : q = 8 := by omega
          subst hq8
          have HZ := hid (sgnOf_no (sign_no (l := l) (fun i hi => HA2.out i hi)))
          go_wp2_with fail
          go_ret
          exact ⟨by rw [HZ.out]; rfl, HB2.out⟩
end Go.Proofs.Ytcidijjbcebcbaa
namespace Go.Proofs.Ytcidijjbcebcbaa
open Go.RowKit Go.Joins
/-- What is read: the number, and whether it is one. -/
def RNumP (ng : Bool) (v : Nat) (w : World) (e : Ending) (w' : World) : Prop :=
  (∃ x : Int, e = .returned (.tuple #[.int .i64 x, .bool (numV ng v).isSome]) ∧ ∀ y, numV ng v = some y → x = y) ∧ w' = w
theorem dval_step (ds : List UInt8) (k : Nat) (h : k < ds.length) : dval (ds.take (k + 1)) = dstep (dval (ds.take k)) ds[k] := by
  unfold dval
  rw [List.take_succ_eq_append_getElem h, dvalF_append, dvalF_cons, dvalF_nil]
theorem dval_le (ds : List UInt8) (k : Nat) : dval (ds.take k) ≤ dval ds := by
  have h : ds.take k ++ ds.drop k = ds := List.take_append_drop k ds
  unfold dval
  conv => rhs; rw [← h, dvalF_append]
  exact dvalF_acc _ _
theorem tdiv_is (d : Nat) (hd : d ≤ 9) : (-9223372036854775808 + (d : Int)).tdiv 10 = -(((9223372036854775808 - d) / 10 : Nat) : Int) := by
  have h2 := Int.neg_tdiv (9223372036854775808 - (d : Int)) 10
  have h3 := Int.tdiv_eq_ediv_of_nonneg (a := 9223372036854775808 - (d : Int)) (b := 10) (by omega)
  have h4 : -(9223372036854775808 - (d : Int)) = -9223372036854775808 + (d : Int) := by omega
  rw [h4] at h2
  rw [h2, h3]
  omega
theorem numV_no (ng : Bool) (v : Nat) (h : 9223372036854775808 < v) : numV ng v = none := by
  cases ng
  · exact numV_fn v (by omega)
  · exact numV_tn v (by omega)
set_option maxRecDepth 100000 in
set_option maxHeartbeats 1000000 in
theorem rnum_t (ds : List UInt8) (hd : ∀ x ∈ ds, isDg x = true) (hne : 0 < ds.length) (hl : (ds.length : Int) ≤ 140737488355328) (w : World) : Calls Try.prog 84 #[.string (St (45 :: ds))] w (RNumP true (dval ds) w) := by
  have hsd := St_size ds
  have hneI : 0 < (ds.length : Int) := by omega
  have HD := hid hd
  clear hd
  have HV := hid (dval_le ds)
  have HE := hid (show dval (ds.take ds.length) = dval ds by rw [List.take_length])
  have HN := hid (numV_no true (dval ds))
  have HSt := hid (dval_step ds)
  generalize dval ds = v at *
  have hi0 := idx (45 :: ds) 0 (by simp)
  simp only [Int.natCast_zero, List.getElem_cons_zero, show (UInt8.toNat 45) = 45 from rfl] at hi0
  have hsl := slF (45 :: ds) 1 (by simp)
  simp only [List.drop_succ_cons, List.drop_zero, show ((1 : Nat) : Int) = 1 from rfl] at hsl
  have hs45 := St_size (45 :: ds)
  have h45l : (45 :: ds).length = ds.length + 1 := rfl
  rw [h45l] at hs45
  go_enter Try.func84, Try.ntmps84
  go_wp2_with fail
  go_loopw [4, 6] (fun n i wr => ∃ (k u : Nat), (k : Int) ≤ ds.length ∧ i = .int .i64 k ∧ n = .int .i64 (-(u : Int)) ∧ Hid (u = dval (ds.take k)) ∧ Hid (u ≤ 9223372036854775808) ∧ w = wr) (fun _ i _ => ds.length - (intOf i).toNat)
  case atStart => exact ⟨0, 0, by omega, rfl, rfl, by show _ = _; rfl, by show _ ≤ _; omega, rfl⟩
  case round =>
    obtain ⟨k, u, hk, rfl, rfl, HU, HLe, hw⟩ := hrel
    subst hw
    by_cases hlt : k < ds.length
    · have hi := idx ds k hlt
      have hkI : (k : Int) < ds.length := by omega
      have hcd := HD.out ds[k] (List.getElem_mem _)
      have hst := HSt.out k hlt
      generalize ds[k] = c at *
      simp [isDg] at hcd
      obtain ⟨d, hd⟩ : ∃ d : Nat, c.toNat = 48 + d := ⟨c.toNat - 48, by omega⟩
      have hd9 : d ≤ 9 := by omega
      have hst2 : dval (ds.take (k + 1)) = u * 10 + d := by rw [hst, ← HU.out]; unfold dstep; omega
      have HST := hid hst2
      have hdI : (c.toNat : Int) = 48 + (d : Int) := by omega
      have htd := tdiv_is d hd9
      obtain ⟨m, hm⟩ : ∃ m : Nat, (9223372036854775808 - d) / 10 = m := ⟨_, rfl⟩
      rw [hm] at htd
      have HM := hid hm
      have hd9I : (d : Int) ≤ 9 := by omega
      have hmod : (d : Int) % 256 = d := by omega
      have hdd : (48 : Int) + (d : Int) - 48 = d := by omega
      have hULe := HLe.out
      have hmle : (m : Int) ≤ 922337203685477580 := by omega
      clear hcd hst hst2 hm hd9 hd
      by_cases hov : m < u
      · have hovI : -(u : Int) < -(m : Int) := by omega
        have HNo := hid (HN.out (by have h1 := HV.out (k + 1); rw [HST.out] at h1; have := HM.out; omega))
        have hovI2 : (m : Int) < u := by omega
        clear hULe
        go_wp2_with fail
        refine bodyPost_ret (v := .tuple #[.int .i64 0, .bool false]) (by simp [results, Try.results84, go_sem]) rfl ⟨⟨0, ?_, ?_⟩, rfl⟩
        · rw [HNo.out]; rfl
        · intro y hy; rw [HNo.out] at hy; cases hy
      · have hovI : ¬ -(u : Int) < -(m : Int) := by omega
        have hovI2 : ¬ (m : Int) < u := by omega
        have hb1 : (u : Int) * 10 + d ≤ 9223372036854775808 := by have := HM.out; omega
        clear hULe
        go_wp2_with fail
        go_roundw
        case rel =>
          refine ⟨k + 1, u * 10 + d, by omega, by go_num, ?_, ?_, ?_, by first | rfl | trivial⟩
          · congr 1; omega
          · show _ = _; rw [HST.out]
          · show _ ≤ _; omega
        case measure => simp [intOf]; omega
    · have hkk : k = ds.length := by omega
      subst hkk
      have huv : u = v := by rw [HU.out, HE.out]
      subst huv
      have hfin : numV true u = some (-(u : Int)) := numV_t u (by have := HLe.out; omega)
      have HF := hid hfin
      clear hfin
      go_wp2_with fail
      refine bodyPost_ret (v := .tuple #[.int .i64 (-(u : Int)), .bool true]) (by simp [results, Try.results84, go_sem]) rfl ⟨⟨-(u : Int), ?_, ?_⟩, rfl⟩
      · rw [HF.out]; rfl
      · intro y hy; rw [HF.out] at hy; cases hy; rfl
set_option maxRecDepth 100000 in
set_option maxHeartbeats 1000000 in
theorem rnum_f (ds : List UInt8) (hd : ∀ x ∈ ds, isDg x = true) (hne : 0 < ds.length) (hl : (ds.length : Int) ≤ 140737488355328) (w : World) : Calls Try.prog 84 #[.string (St ds)] w (RNumP false (dval ds) w) := by
  have hsd := St_size ds
  have hneI : 0 < (ds.length : Int) := by omega
  have HD := hid hd
  clear hd
  have HV := hid (dval_le ds)
  have HE := hid (show dval (ds.take ds.length) = dval ds by rw [List.take_length])
  have HN := hid (numV_no false (dval ds))
  have HSt := hid (dval_step ds)
  generalize dval ds = v at *
  have hi0 := idx ds 0 hne
  simp only [Int.natCast_zero] at hi0
  have hc0 : ¬ ((ds[0].toNat : Nat) : Int) = 45 := by
    have := HD.out ds[0] (List.getElem_mem _)
    simp [isDg] at this; omega
  have hb45 : (((ds[0].toNat : Nat) : Int) == 45) = false := beq_eq_false_iff_ne.2 hc0
  generalize ds[0] = c0 at *
  go_enter Try.func84, Try.ntmps84
  go_wp2_with fail
  go_loopw [4, 6] (fun n i wr => ∃ (k u : Nat), (k : Int) ≤ ds.length ∧ i = .int .i64 k ∧ n = .int .i64 (-(u : Int)) ∧ Hid (u = dval (ds.take k)) ∧ Hid (u ≤ 9223372036854775808) ∧ w = wr) (fun _ i _ => ds.length - (intOf i).toNat)
  case atStart => exact ⟨0, 0, by omega, rfl, rfl, by show _ = _; rfl, by show _ ≤ _; omega, rfl⟩
  case round =>
    obtain ⟨k, u, hk, rfl, rfl, HU, HLe, hw⟩ := hrel
    subst hw
    by_cases hlt : k < ds.length
    · have hi := idx ds k hlt
      have hkI : (k : Int) < ds.length := by omega
      have hcd := HD.out ds[k] (List.getElem_mem _)
      have hst := HSt.out k hlt
      generalize ds[k] = c at *
      simp [isDg] at hcd
      obtain ⟨d, hd⟩ : ∃ d : Nat, c.toNat = 48 + d := ⟨c.toNat - 48, by omega⟩
      have hd9 : d ≤ 9 := by omega
      have hst2 : dval (ds.take (k + 1)) = u * 10 + d := by rw [hst, ← HU.out]; unfold dstep; omega
      have HST := hid hst2
      have hdI : (c.toNat : Int) = 48 + (d : Int) := by omega
      have htd := tdiv_is d hd9
      obtain ⟨m, hm⟩ : ∃ m : Nat, (9223372036854775808 - d) / 10 = m := ⟨_, rfl⟩
      rw [hm] at htd
      have HM := hid hm
      have hd9I : (d : Int) ≤ 9 := by omega
      have hmod : (d : Int) % 256 = d := by omega
      have hdd : (48 : Int) + (d : Int) - 48 = d := by omega
      have hULe := HLe.out
      have hmle : (m : Int) ≤ 922337203685477580 := by omega
      clear hcd hst hst2 hm hd9 hd
      by_cases hov : m < u
      · have hovI : -(u : Int) < -(m : Int) := by omega
        have HNo := hid (HN.out (by have h1 := HV.out (k + 1); rw [HST.out] at h1; have := HM.out; omega))
        have hovI2 : (m : Int) < u := by omega
        clear hULe
        go_wp2_with fail
        refine bodyPost_ret (v := .tuple #[.int .i64 0, .bool false]) (by simp [results, Try.results84, go_sem]) rfl ⟨⟨0, ?_, ?_⟩, rfl⟩
        · rw [HNo.out]; rfl
        · intro y hy; rw [HNo.out] at hy; cases hy
      · have hovI : ¬ -(u : Int) < -(m : Int) := by omega
        have hovI2 : ¬ (m : Int) < u := by omega
        have hb1 : (u : Int) * 10 + d ≤ 9223372036854775808 := by have := HM.out; omega
        clear hULe
        go_wp2_with fail
        go_roundw
        case rel =>
          refine ⟨k + 1, u * 10 + d, by omega, by go_num, ?_, ?_, ?_, by first | rfl | trivial⟩
          · congr 1; omega
          · show _ = _; rw [HST.out]
          · show _ ≤ _; omega
        case measure => simp [intOf]; omega
    · have hkk : k = ds.length := by omega
      subst hkk
      have huv : u = v := by rw [HU.out, HE.out]
      subst huv
      rcases Nat.lt_or_ge u 9223372036854775808 with h9 | h9
      · have HF := hid (numV_f u h9)
        have hg1 : -9223372036854775807 ≤ -(u : Int) := by omega
        have hg2 : (-9223372036854775808 : Int) < -(u : Int) := by omega
        clear h9
        go_wp2_with fail
        refine bodyPost_ret (v := .tuple #[.int .i64 (u : Int), .bool true]) (by simp [results, Try.results84, go_sem]) rfl ⟨⟨(u : Int), ?_, ?_⟩, rfl⟩
        · rw [HF.out]; rfl
        · intro y hy; rw [HF.out] at hy; cases hy; rfl
      · have hv9 : u = 9223372036854775808 := by have := HLe.out; omega
        have HF := hid (numV_fn u (by omega))
        have hvI : -(u : Int) = -9223372036854775808 := by omega
        clear h9
        go_wp2_with fail
        refine bodyPost_ret (v := .tuple #[.int .i64 (wrap64 9223372036854775808), .bool false]) (by simp [results, Try.results84, go_sem]) rfl ⟨⟨wrap64 9223372036854775808, ?_, ?_⟩, rfl⟩
        · rw [HF.out]; rfl
        · intro y hy; rw [HF.out] at hy; cases hy
theorem rnum_any (ng : Bool) (ds : List UInt8) (hd : ∀ x ∈ ds, isDg x = true) (hne : 0 < ds.length) (hl : (ds.length : Int) ≤ 140737488355328) (w : World) : Calls Try.prog 84 #[.string (St (sgnL ng ++ ds))] w (RNumP ng (dval ds) w) := by
  cases ng
  · exact rnum_f ds hd hne hl w
  · exact rnum_t ds hd hne hl w
end Go.Proofs.Ytcidijjbcebcbaa
namespace Go.Proofs.Ytcidijjbcebcbaa
open Go.RowKit Go.Joins
/-- The reference's own way through a text: behind a sign two bytes at once; how long it is is asked at the end. -/
def rtx (acc : List UInt8) (i : Nat) : List UInt8 → Option (List UInt8 × Nat)
  | [] => none
  | [c] => if c.toNat = 34 then (if acc.length ≤ 64 then some (acc, i + 1) else none) else none
  | c :: d :: r =>
    if c.toNat = 34 then (if acc.length ≤ 64 then some (acc, i + 1) else none)
    else if c.toNat = 92 then (if nSl d then rtx (acc ++ [d]) (i + 2) r else none)
    else rtx (acc ++ [c]) (i + 1) (d :: r)
theorem txtF_long : ∀ (l acc : List UInt8) (sl : Bool) (k : Nat), 64 < acc.length → txtF acc sl k l = none
  | [], _, _, _, _ => rfl
  | c :: r, acc, sl, k, h => tx_no2 acc r k sl c h
theorem rtx_long : ∀ (f : Nat) (l acc : List UInt8) (i : Nat), l.length ≤ f → 64 < acc.length → rtx acc i l = none
  | _, [], _, _, _, _ => rfl
  | _, [c], acc, i, _, h => by
    unfold rtx; rw [if_neg (show ¬ acc.length ≤ 64 by omega)]; split <;> rfl
  | 0, c :: d :: r, _, _, hf, _ => by simp at hf
  | f + 1, c :: d :: r, acc, i, hf, h => by
    unfold rtx
    rw [if_neg (show ¬ acc.length ≤ 64 by omega)]
    split
    · rfl
    · split
      · split
        · exact rtx_long f r _ _ (by simp at hf; omega) (by simp; omega)
        · rfl
      · exact rtx_long f (d :: r) _ _ (by simp at hf ⊢; omega) (by simp; omega)
/-- The two ways are one: where the program stands at k, the reference stands at k + 1. -/
theorem rtx_eq : ∀ (f : Nat) (l acc : List UInt8) (k : Nat), l.length ≤ f → rtx acc (k + 1) l = txtF acc false k l
  | _, [], _, _, _ => rfl
  | _, [c], acc, k, _ => by
    by_cases h : 64 < acc.length
    · rw [txtF_long _ _ _ _ h, rtx_long 1 _ _ _ (by simp) h]
    · unfold rtx
      rw [if_pos (show acc.length ≤ 64 by omega)]
      by_cases h34 : c.toNat = 34
      · rw [if_pos h34, tx_end _ _ _ h h34]
      · rw [if_neg h34]
        by_cases h92 : c.toNat = 92
        · rw [tx_sl _ _ _ h h92]; rfl
        · rw [tx_app0 _ _ _ h h34 h92]; rfl
  | 0, c :: d :: r, _, _, hf => by simp at hf
  | f + 1, c :: d :: r, acc, k, hf => by
    by_cases h : 64 < acc.length
    · rw [txtF_long _ _ _ _ h, rtx_long (f + 1) _ _ _ hf h]
    · unfold rtx
      rw [if_pos (show acc.length ≤ 64 by omega)]
      by_cases h34 : c.toNat = 34
      · rw [if_pos h34, tx_end _ _ _ h h34]
      · rw [if_neg h34]
        by_cases h92 : c.toNat = 92
        · rw [if_pos h92, tx_sl _ _ _ h h92]
          cases hn : nSl d with
          | true =>
            rw [if_pos rfl, tx_app1 _ _ _ h hn]
            exact rtx_eq f r (acc ++ [d]) (k + 2) (by simp at hf; omega)
          | false => rw [if_neg (by simp), tx_no1 _ _ _ hn]
        · rw [if_neg h92, tx_app0 _ _ _ h h34 h92]
          exact rtx_eq f (d :: r) (acc ++ [c]) (k + 1) (by simp at hf ⊢; omega)
def RTextP (r : Option (List UInt8 × Nat)) (w : World) (e : Ending) (w' : World) : Prop :=
  (∃ (s : List UInt8) (k : Int), e = .returned (.tuple #[.string (St s), .int .i64 k, .bool r.isSome]) ∧ ∀ b n, r = some (b, n) → s = b ∧ k = (n : Int)) ∧ Below w.heap.size w w'
theorem rt_end {acc r : List UInt8} {i : Nat} {c : UInt8} (h : c.toNat = 34) : rtx acc i (c :: r) = if acc.length ≤ 64 then some (acc, i + 1) else none := by
  cases r <;> (unfold rtx; rw [if_pos h])
theorem rt_sl0 {acc : List UInt8} {i : Nat} {c : UInt8} (h : ¬ c.toNat = 34) : rtx acc i [c] = none := by unfold rtx; rw [if_neg h]
theorem rt_sl1 {acc r : List UInt8} {i : Nat} {c d : UInt8} (h : c.toNat = 92) (hn : nSl d = true) : rtx acc i (c :: d :: r) = rtx (acc ++ [d]) (i + 2) r := by
  rw [rtx, if_neg (by omega), if_pos h, if_pos hn]
theorem rt_sl2 {acc r : List UInt8} {i : Nat} {c d : UInt8} (h : c.toNat = 92) (hn : nSl d = false) : rtx acc i (c :: d :: r) = none := by
  rw [rtx, if_neg (by omega), if_pos h, if_neg (by simp [hn])]
theorem rt_app {acc r : List UInt8} {i : Nat} {c : UInt8} (h : ¬ c.toNat = 34) (h2 : ¬ c.toNat = 92) : rtx acc i (c :: r) = rtx (acc ++ [c]) (i + 1) r := by
  cases r with
  | nil => rw [rt_sl0 h]; rfl
  | cons d r => rw [rtx, if_neg h, if_neg h2]
set_option maxRecDepth 100000 in
set_option maxHeartbeats 1000000 in
theorem rtext_any (l : List UInt8) (hl : (l.length : Int) ≤ 2048) (h1 : 0 < l.length) (w : World) : Calls Try.prog 82 #[.string (St l)] w (RTextP (rtx [] 1 l.tail) w) := by
  have hsz := St_size l
  have h1I : 0 < (l.length : Int) := by omega
  have HTl := hid (show l.drop 1 = l.tail by simp)
  generalize hR : rtx [] 1 l.tail = R
  rw [← HTl.out] at hR
  have HR := hid hR
  clear hR HTl
  go_enter Try.func82, Try.ntmps82
  go_wp2_with fail
  go_loopw [5, 6] (fun v i wr => ∃ (k : Nat) (acc : List UInt8), (k : Int) ≤ l.length ∧ i = .int .i64 k ∧ Hid (acc.length ≤ k) ∧ Hid (rtx acc k (l.drop k) = R) ∧ Hid (wr.ownsRow w.heap.size 5 1 v acc.length (bytesV acc)) ∧ Hid (Below w.heap.size w wr)) (fun _ i _ => l.length - (intOf i).toNat)
  case atStart =>
    refine ⟨1, [], by omega, rfl, by show 0 ≤ 1; omega, HR.out, ?_, ?_⟩
    · exact World.ownsRow_made w #[] 0 (Nat.le_refl _) (by unfold maxLen; omega) rfl
    · exact (Below.refl _ w).alloc (Nat.le_refl _) _
  case round =>
    clear HR
    obtain ⟨k, acc, hk, rfl, HL, HT, HK, HB⟩ := hrel
    obtain ⟨p, cap, rfl⟩ : ∃ p cap, u5 = Value.slice p acc.length cap := by
      rcases ownsRow_forms HK.out with ⟨rfl, h0⟩ | ⟨g, cap, rfl⟩
      · exact ⟨none, 0, by rw [h0]⟩
      · exact ⟨_, _, rfl⟩
    have hsz9 : w.heap.size ≤ wr.heap.size := HB.out.size
    by_cases hlt : k < l.length
    · have hi := idx l k hlt
      have hkI : (k : Int) < l.length := by omega
      rw [drop_at hlt] at HT
      generalize l[k] = c at *
      by_cases h34 : c.toNat = 34
      · have h34I : (c.toNat : Int) = 34 := by omega
        have hcv := conv_own' HK.out rfl
        rw [rt_end h34] at HT
        go_wp2_with fail
        refine bodyPost_ret (v := .tuple #[.string (St acc), .int .i64 ((k : Int) + 1), .bool (decide ((acc.length : Int) ≤ 64))]) (by simp [results, Try.results82, go_sem]) rfl ⟨⟨acc, (k : Int) + 1, ?_, ?_⟩, HB.out⟩
        · rw [← HT.out]
          by_cases h64 : acc.length ≤ 64
          · rw [if_pos h64, decide_eq_true (show (acc.length : Int) ≤ 64 by omega)]; rfl
          · rw [if_neg h64, decide_eq_false (show ¬ (acc.length : Int) ≤ 64 by omega)]; rfl
        · intro b n hbn
          rw [← HT.out] at hbn
          split at hbn
          · cases hbn; exact ⟨rfl, by simp⟩
          · cases hbn
      · have h34I : ¬ (c.toNat : Int) = 34 := by omega
        by_cases h92 : c.toNat = 92
        · have h92I : (c.toNat : Int) = 92 := by omega
          by_cases hlt2 : k + 1 < l.length
          · have hi2 := idx l (k + 1) hlt2
            simp only [Int.natCast_add, Int.natCast_one] at hi2
            have hk2 : ¬ (l.length : Int) ≤ (k : Int) + 1 := by omega
            rw [drop_at hlt2] at HT
            generalize l[k + 1] = d at *
            cases hn : nSl d with
            | true =>
              rw [rt_sl1 h92 hn] at HT
              simp [nSl] at hn
              rcases hn with hn | hn
              · have hnI : (d.toNat : Int) = 34 := by omega
                go_wp2_with (at_builtin; refine app1 rfl _ _ rfl rfl (HK.out.alloc _) rfl (alloc_cell _ _ _) rfl (by have := HL.out; omega) (by go_size) ?_; intro v1 w1 ho1 hb1; have HK1 := hid ho1; have HB1 := hid ((HB.out.alloc hsz9 _).trans hb1); clear ho1 hb1)
                go_roundw
                case rel =>
                  exact ⟨k + 2, acc ++ [d], by omega, by go_num, by show _ ≤ _; simp; have := HL.out; omega, HT.out, own_cast HK1.out (by simp) (by simp [bytesV, hn]), HB1.out⟩
                case measure => simp [intOf]; omega
              · have hnI : (d.toNat : Int) = 92 := by omega
                go_wp2_with (at_builtin; refine app1 rfl _ _ rfl rfl (HK.out.alloc _) rfl (alloc_cell _ _ _) rfl (by have := HL.out; omega) (by go_size) ?_; intro v1 w1 ho1 hb1; have HK1 := hid ho1; have HB1 := hid ((HB.out.alloc hsz9 _).trans hb1); clear ho1 hb1)
                go_roundw
                case rel =>
                  exact ⟨k + 2, acc ++ [d], by omega, by go_num, by show _ ≤ _; simp; have := HL.out; omega, HT.out, own_cast HK1.out (by simp) (by simp [bytesV, hn]), HB1.out⟩
                case measure => simp [intOf]; omega
            | false =>
              rw [rt_sl2 h92 hn] at HT
              simp [nSl] at hn
              have hn1 : ¬ (d.toNat : Int) = 34 := by omega
              have hn2 : ¬ (d.toNat : Int) = 92 := by omega
              have hb1 : ((d.toNat : Int) != 34) = true := bne_iff_ne.2 hn1
              have hb2 : ((d.toNat : Int) != 92) = true := bne_iff_ne.2 hn2
              go_wp2_with fail
              refine bodyPost_ret (v := .tuple #[.string ⟨#[]⟩, .int .i64 0, .bool false]) (by simp [results, Try.results82, go_sem]) rfl ⟨⟨[], 0, ?_, ?_⟩, HB.out⟩
              · rw [← HT.out]; rfl
              · intro b n hbn; rw [← HT.out] at hbn; cases hbn
          · have hk2 : (l.length : Int) ≤ (k : Int) + 1 := by omega
            rw [show l.drop (k + 1) = [] from List.drop_of_length_le (by omega), rt_sl0 h34] at HT
            go_wp2_with fail
            refine bodyPost_ret (v := .tuple #[.string ⟨#[]⟩, .int .i64 0, .bool false]) (by simp [results, Try.results82, go_sem]) rfl ⟨⟨[], 0, ?_, ?_⟩, HB.out⟩
            · rw [← HT.out]; rfl
            · intro b n hbn; rw [← HT.out] at hbn; cases hbn
        · have h92I : ¬ (c.toNat : Int) = 92 := by omega
          rw [rt_app h34 h92] at HT
          go_wp2_with (at_builtin; refine app1 rfl _ _ rfl rfl (HK.out.alloc _) rfl (alloc_cell _ _ _) rfl (by have := HL.out; omega) (by go_size) ?_; intro v1 w1 ho1 hb1; have HK1 := hid ho1; have HB1 := hid ((HB.out.alloc hsz9 _).trans hb1); clear ho1 hb1)
          go_roundw
          case rel =>
            exact ⟨k + 1, acc ++ [c], by omega, by go_num, by show _ ≤ _; simp; have := HL.out; omega, HT.out, own_cast HK1.out (by simp) (by simp [bytesV]), HB1.out⟩
          case measure => simp [intOf]; omega
    · rw [List.drop_of_length_le (by omega)] at HT
      have HT2 := hid (show none = R from HT.out)
      go_wp2_with fail
      refine bodyPost_ret (v := .tuple #[.string ⟨#[]⟩, .int .i64 0, .bool false]) (by simp [results, Try.results82, go_sem]) rfl ⟨⟨[], 0, ?_, ?_⟩, HB.out⟩
      · rw [← HT2.out]; rfl
      · intro b n hbn; rw [← HT2.out] at hbn; cases hbn
end Go.Proofs.Ytcidijjbcebcbaa
namespace Go.Proofs.Ytcidijjbcebcbaa
open Go.RowKit
theorem rLe_any (c : UInt8) (w : World) : Calls Try.prog 80 #[.int .u8 (c.toNat : Int)] w fun e w' => e = .returned (.bool (isLe c)) ∧ w' = w := by
  go_enter Try.func80, Try.ntmps80
  go_wp2
  all_goals (go_ret; refine ⟨?_, rfl⟩; refine congrArg Ending.returned (congrArg Value.bool (Bool.eq_iff_iff.2 ?_)); simp [isLe]; try omega)
theorem rDg_any (c : UInt8) (w : World) : Calls Try.prog 83 #[.int .u8 (c.toNat : Int)] w fun e w' => e = .returned (.bool (isDg c)) ∧ w' = w := by
  go_enter Try.func83, Try.ntmps83
  go_wp2
  all_goals (go_ret; refine ⟨?_, rfl⟩; refine congrArg Ending.returned (congrArg Value.bool (Bool.eq_iff_iff.2 ?_)); simp [isDg]; try omega)
theorem rWd_any (c : UInt8) (w : World) : Calls Try.prog 81 #[.int .u8 (c.toNat : Int)] w fun e w' => e = .returned (.bool (isWd c)) ∧ w' = w := by
  go_enter Try.func81, Try.ntmps81
  go_wp2
  all_goals (go_ret; refine ⟨?_, rfl⟩; refine congrArg Ending.returned (congrArg Value.bool (Bool.eq_iff_iff.2 ?_)); simp [isWd]; try omega)
end Go.Proofs.Ytcidijjbcebcbaa
namespace Go.Proofs.Ytcidijjbcebcbaa
open Go.RowKit Go.Joins
/-- A token, or none: then 0 stands beside whatever it is. -/
def OneP (x : Option (Tk × Nat)) (w : World) (e : Ending) (w' : World) : Prop :=
  (∃ (k : Int) (s : List UInt8) (n a m : Int), e = .returned (.tuple #[TV k s n a, .int .i64 m]) ∧ (x = none → m = 0) ∧ ∀ t q, x = some (t, q) → k = (t.kind : Int) ∧ s = t.s ∧ n = t.n ∧ a = (t.at_ : Int) ∧ m = (q : Int)) ∧ Below w.heap.size w w'
set_option maxRecDepth 100000 in
set_option maxHeartbeats 1000000 in
theorem rone_w (l : List UInt8) (hl : (l.length : Int) ≤ 2048) (h1 : 0 < l.length) (hc : isLe l[0] = true) (w : World) : Calls Try.prog 51 #[.string (St l)] w (OneP (wordS l) w) := by
  have hsz := St_size l
  have h1I : 0 < (l.length : Int) := by omega
  have hi0 := idx l 0 h1
  simp only [Int.natCast_zero] at hi0
  generalize l[0] = c at *
  go_enter Try.func51, Try.ntmps51
  go_wp2_with (go_at_call 80; refine (rLe_any _ _).mono ?_; rintro e w2 ⟨rfl, hw2⟩; replace hw2 := hw2.symm; subst hw2; rw [hc])
  go_loopw [4] (fun i wr => ∃ k : Nat, (k : Int) ≤ l.length ∧ i = .int .i64 k ∧ Hid (∀ i (h : i < l.length), i < k → isWd l[i] = true) ∧ w.alloc (.cells z31 86) = wr) (fun i _ => l.length - (intOf i).toNat)
  case atStart => exact ⟨0, by omega, rfl, fun i h hi => by omega, rfl⟩
  case round =>
    obtain ⟨k, hk, rfl, HA, hw⟩ := hrel
    have hend : (k = l.length ∨ ∃ h : k < l.length, isWd l[k] = false) ∨ ∃ h : k < l.length, isWd l[k] = true := by
      by_cases h : k < l.length
      · cases hx : isWd l[k] with
        | true => exact .inr ⟨h, hx⟩
        | false => exact .inl (.inr ⟨h, hx⟩)
      · exact .inl (.inl (by omega))
    rcases hend with hend | ⟨hlt, hx⟩
    · have HSp := hid (spanN_is isWd l k (by omega) HA.out hend)
      have HN := hid (@wordS_no l)
      have HY := hid (@wordS_yes l)
      rw [HSp.out] at HN HY
      have hs := slT l k (by omega)
      subst hw
      by_cases h24 : 24 < k
      · have h24I : ¬ (k : Int) ≤ 24 := by omega
        have HZ := hid (HN.out h24)
        clear HN HY h24
        rcases hend with hend | ⟨hlt, hx⟩
        · have hkI : ¬ (k : Int) < l.length := by omega
          clear hend
          go_wp2_with fail
          refine bodyPost_ret (v := .tuple #[TV 0 [] 0 0, .int .i64 0]) (by simp [results, Try.results51, go_sem]; rfl) rfl ⟨⟨0, [], 0, 0, 0, rfl, fun _ => rfl, fun t q h => ?_⟩, by go_grown⟩
          rw [HZ.out] at h; cases h
        · have hkI : (k : Int) < l.length := by omega
          have hi := idx l k hlt
          have HX := hid hx
          generalize l[k] = d at *
          go_wp2_with (go_at_call 81; refine (rWd_any _ _).mono ?_; rintro e w3 ⟨rfl, hw3⟩; replace hw3 := hw3.symm; subst hw3; rw [HX.out])
          refine bodyPost_ret (v := .tuple #[TV 0 [] 0 0, .int .i64 0]) (by simp [results, Try.results51, go_sem]; rfl) rfl ⟨⟨0, [], 0, 0, 0, rfl, fun _ => rfl, fun t q h => ?_⟩, by go_grown⟩
          rw [HZ.out] at h; cases h
      · have h24I : (k : Int) ≤ 24 := by omega
        have HZ := hid (HY.out h24)
        clear HN HY h24
        rcases hend with hend | ⟨hlt, hx⟩
        · have hkI : ¬ (k : Int) < l.length := by omega
          clear hend
          go_wp2_with fail
          refine bodyPost_ret (v := .tuple #[TV 1 (l.take k) 0 0, .int .i64 (k : Int)]) (by simp [results, Try.results51, go_sem]) rfl ⟨⟨1, l.take k, 0, 0, (k : Int), rfl, fun h => ?_, fun t q h => ?_⟩, by go_grown⟩
          · rw [HZ.out] at h; cases h
          · rw [HZ.out] at h; cases h; exact ⟨rfl, rfl, rfl, rfl, rfl⟩
        · have hkI : (k : Int) < l.length := by omega
          have hi := idx l k hlt
          have HX := hid hx
          generalize l[k] = d at *
          go_wp2_with (go_at_call 81; refine (rWd_any _ _).mono ?_; rintro e w3 ⟨rfl, hw3⟩; replace hw3 := hw3.symm; subst hw3; rw [HX.out])
          refine bodyPost_ret (v := .tuple #[TV 1 (l.take k) 0 0, .int .i64 (k : Int)]) (by simp [results, Try.results51, go_sem]) rfl ⟨⟨1, l.take k, 0, 0, (k : Int), rfl, fun h => ?_, fun t q h => ?_⟩, by go_grown⟩
          · rw [HZ.out] at h; cases h
          · rw [HZ.out] at h; cases h; exact ⟨rfl, rfl, rfl, rfl, rfl⟩
    · have hkI : (k : Int) < l.length := by omega
      have hi := idx l k hlt
      have HX := hid hx
      go_wp2_with (go_at_call 81; refine (rWd_any _ _).mono ?_; rintro e w3 ⟨rfl, hw3⟩; replace hw3 := hw3.symm; subst hw3; rw [HX.out])
      go_roundw
      case rel =>
        refine ⟨k + 1, by omega, by go_num, ?_, hw⟩
        intro i h hik
        rcases Nat.lt_or_ge i k with h1 | h1
        · exact HA.out i h h1
        · obtain rfl : i = k := by omega
          exact HX.out
      case measure => simp [intOf]; omega
theorem rLe_34 (w : World) : Calls Try.prog 80 #[.int .u8 34] w fun e w' => e = .returned (.bool false) ∧ w' = w := rLe_any 34 w
theorem text_rtx (l : List UInt8) : textS l = (rtx [] 1 l.tail).map (fun x => (⟨3, x.1, 0, 0⟩, x.2)) := by
  rw [show (1 : Nat) = 0 + 1 from rfl, rtx_eq l.tail.length l.tail [] 0 (Nat.le_refl _)]
  unfold textS
  cases txtF [] false 0 l.tail <;> rfl
set_option maxRecDepth 100000 in
set_option maxHeartbeats 1000000 in
theorem rone_t (l : List UInt8) (hl : (l.length : Int) ≤ 2048) (h1 : 0 < l.length) (hc : l[0].toNat = 34) (w : World) : Calls Try.prog 51 #[.string (St l)] w (OneP (textS l) w) := by
  have hsz := St_size l
  have h1I : 0 < (l.length : Int) := by omega
  have hi0 := idx l 0 h1
  simp only [Int.natCast_zero] at hi0
  rw [hc] at hi0
  simp only [show ((34 : Nat) : Int) = 34 from rfl] at hi0
  have HRT := hid (fun w => rtext_any l hl h1 w)
  have HTX := hid (text_rtx l)
  cases hr : rtx [] 1 l.tail with
  | none =>
    rw [hr] at HRT HTX
    have HZ := hid (show textS l = none from HTX.out)
    clear hc hr HTX
    go_enter Try.func51, Try.ntmps51
    go_wp2_with (first
      | (go_at_call 80; refine (rLe_34 _).mono ?_; rintro e w2 ⟨rfl, hw2⟩; replace hw2 := hw2.symm; subst hw2)
      | (go_at_call 82; refine (HRT.out _).mono ?_; unfold RTextP; rintro e w3 ⟨⟨s, kk, rfl, hs⟩, hb⟩; have HKB := hid (box_keep hb); have hfz := HKB.out.1.frozen; have hcs := HKB.out.1.cells; obtain ⟨hc0, hc1, hc2, hc3⟩ := hcs; clear hb; clear hs))
    have hE := HKB.out.1.set4 (.int .i64 0) (.string ⟨#[]⟩) (.int .i64 0) (.int .i64 0)
    obtain ⟨d0, d1, d2, d3⟩ := hE.cells
    have HBB := hid (below_set4 HKB.out.2 (Nat.le_refl _) (.int .i64 0) (.string ⟨#[]⟩) (.int .i64 0) (.int .i64 0))
    refine bodyPost_ret (v := .tuple #[TV 0 [] 0 0, .int .i64 0]) ?_ rfl ⟨⟨0, [], 0, 0, 0, rfl, ?_, ?_⟩, HBB.out⟩
    · clear hc0 hc1 hc2 hc3
      simp [results, Try.results51, go_sem, d0, d1, d2, d3]; rfl
    · exact fun _ => rfl
    · intro t q h; rw [HZ.out] at h; cases h
  | some x =>
    obtain ⟨b, n⟩ := x
    rw [hr] at HRT HTX
    have HZ := hid (show textS l = some (⟨3, b, 0, 0⟩, n) from HTX.out)
    clear hc hr HTX
    go_enter Try.func51, Try.ntmps51
    go_wp2_with (first
      | (go_at_call 80; refine (rLe_34 _).mono ?_; rintro e w2 ⟨rfl, hw2⟩; replace hw2 := hw2.symm; subst hw2)
      | (go_at_call 82; refine (HRT.out _).mono ?_; unfold RTextP; rintro e w3 ⟨⟨s, kk, rfl, hs⟩, hb⟩; obtain ⟨rfl, rfl⟩ := hs b n rfl; have HKB := hid (box_keep hb); have hfz := HKB.out.1.frozen; have hcs := HKB.out.1.cells; obtain ⟨hc0, hc1, hc2, hc3⟩ := hcs; clear hb))
    have hE := HKB.out.1.set4 (.int .i64 3) (.string (St s)) (.int .i64 0) (.int .i64 0)
    obtain ⟨d0, d1, d2, d3⟩ := hE.cells
    have HBB := hid (below_set4 HKB.out.2 (Nat.le_refl _) (.int .i64 3) (.string (St s)) (.int .i64 0) (.int .i64 0))
    refine bodyPost_ret (v := .tuple #[TV 3 s 0 0, .int .i64 (n : Int)]) ?_ rfl ⟨⟨3, s, 0, 0, (n : Int), rfl, ?_, ?_⟩, HBB.out⟩
    · clear hc0 hc1 hc2 hc3
      simp [results, Try.results51, go_sem, d0, d1, d2, d3]
    · intro h; rw [HZ.out] at h; cases h
    · intro t q h; rw [HZ.out] at h; cases h; exact ⟨rfl, rfl, rfl, rfl, rfl⟩
theorem sign_45 {l : List UInt8} {r : List UInt8} (h : l = 45 :: r) : signS l = none := by
  subst h
  unfold signS
  rw [List.find?_eq_none.2 ?_]
  intro x hx
  simp only [signsL, List.mem_cons, List.not_mem_nil, or_false] at hx
  rcases hx with h | h | h | h | h | h | h | h | h | h | h <;> subst h <;> simp [List.isPrefixOf]
/-- What is neither word nor text nor number, as the reference asks. -/
def Other (l : List UInt8) : Prop := ∀ h : 0 < l.length, isLe l[0] = false ∧ ¬ l[0].toNat = 34 ∧ isDg l[0] = false ∧ (l[0].toNat = 45 → ∀ h2 : 1 < l.length, isDg l[1] = false)
theorem first_other {l : List UInt8} (h1 : 0 < l.length) (h : Other l) : firstS l = signS l := by
  obtain ⟨a1, a2, a3, a4⟩ := h h1
  by_cases h45 : l[0].toNat = 45
  · rw [firstS_n h1 a1 (.inl h45)]
    obtain ⟨c, r, rfl⟩ : ∃ c r, l = c :: r := by
      cases l with
      | nil => simp at h1
      | cons c r => exact ⟨c, r, rfl⟩
    have hc : c = 45 := UInt8.toNat_inj.1 h45
    subst hc
    rw [sign_45 rfl]
    apply numS_a
    show spanN isDg r = 0
    cases r with
    | nil => rfl
    | cons d r =>
      have := a4 rfl (by simp)
      have hd : isDg d = false := this
      simp [spanN, hd]
  · exact firstS_s h1 a1 h45 a3 a2
end Go.Proofs.Ytcidijjbcebcbaa
