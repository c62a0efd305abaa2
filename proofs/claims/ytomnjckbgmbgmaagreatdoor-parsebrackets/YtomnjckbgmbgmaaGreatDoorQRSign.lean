/-
  What the reference's sign returns.
-/
import Derived.Test.YtomnjckbgmbgmaaGreatDoorQLex
namespace Go.Proofs.YtomnjckbgmbgmaaGreatDoor
open Go.RowKit Go.Joins
def sgnOf (l : List UInt8) : List UInt8 := match signS l with | some (t, _) => t.s | none => []
abbrev twoC : Array Value := #[.string ⟨#[33, 61]⟩, .string ⟨#[60, 61]⟩, .string ⟨#[62, 61]⟩]
theorem twoC_at (i : Nat) (h : i < 3) : twoC[i]? = some (.string (St (signsL.getD i []))) := by
  match i, h with
  | 0, _ => rfl
  | 1, _ => rfl
  | 2, _ => rfl
theorem two_cell (w : World) (i : Nat) (h : i < 3) : (w.alloc (.cells twoC 9)).cell? ⟨w.heap.size, i, none⟩ = some (.string (St (signsL.getD i []))) := by
  rw [block_cell (alloc_block w _) i, twoC_at i h]
def oneL : List UInt8 := [124, 44, 40, 41, 58, 61, 60, 62]
theorem one_idx (i : Nat) (h : i < 8) (w : World) : (Instr.index 9 (.string ⟨#[124, 44, 40, 41, 58, 61, 60, 62]⟩) (.int .i64 (i : Int))).run Tryz.prog w = .ok (.int .u8 ((oneL.getD i 0).toNat : Int)) w := by
  have := idx oneL i h w
  rw [List.getD_eq_getElem?_getD, List.getElem?_eq_getElem (show i < oneL.length from h)]
  exact this
theorem one_is (i : Nat) (h : i < 8) : signsL.getD (3 + i) [] = [oneL.getD i 0] := by
  match i, h with
  | 0, _ => rfl
  | 1, _ => rfl
  | 2, _ => rfl
  | 3, _ => rfl
  | 4, _ => rfl
  | 5, _ => rfl
  | 6, _ => rfl
  | 7, _ => rfl
theorem two_len (i : Nat) (h : i < 3) : (signsL.getD i []).length = 2 := by
  match i, h with
  | 0, _ => rfl
  | 1, _ => rfl
  | 2, _ => rfl
theorem sgnOf_yes {l x : List UInt8} {n : Nat} (h : signS l = some (⟨4, x, 0, 0⟩, n)) : sgnOf l = x := by unfold sgnOf; rw [h]
theorem sgnOf_no {l : List UInt8} (h : signS l = none) : sgnOf l = [] := by unfold sgnOf; rw [h]
theorem below_a {w w' : World} {o : Obj} (h : Below (w.alloc o).heap.size (w.alloc o) w') : Below w.heap.size w w' := ((Below.refl _ w).alloc (Nat.le_refl _) o).trans (h.mono (by simp))
theorem pre_one {c d : UInt8} {r : List UInt8} : [d].isPrefixOf (c :: r) = (d == c) := by simp [List.isPrefixOf]
set_option maxRecDepth 100000 in
set_option maxHeartbeats 1000000 in
theorem rsign_any (l : List UInt8) (hl : (l.length : Int) ≤ 140737488355328) (h1 : 0 < l.length) (w : World) : Calls Tryz.prog 71 #[.string (St l)] w fun e w' => e = .returned (.string (St (sgnOf l))) ∧ Below w.heap.size w w' := by
  have hsz := St_size l
  have h1I : 0 < (l.length : Int) := by omega
  have HC := hid (two_cell w)
  go_enter Tryz.func71, Tryz.ntmps71
  go_wp2_with fail
  go_loopw [4] (fun i wr => ∃ k : Nat, (k : Int) ≤ 3 ∧ i = .int .i64 k ∧ Hid (∀ i, i < k → (signsL.getD i []).isPrefixOf l = false) ∧ Hid (Below (w.alloc (.cells twoC 9)).heap.size (w.alloc (.cells twoC 9)) wr)) (fun i _ => 3 - (intOf i).toNat)
  case atStart => exact ⟨0, by omega, rfl, fun i hi => by omega, Below.refl _ _⟩
  case round =>
    obtain ⟨k, hk, rfl, HA, HB⟩ := hrel
    by_cases hlt : k < 3
    · have hkI : (k : Int) < 3 := by omega
      have hcell : wr.cell? ⟨w.heap.size, k, none⟩ = some (.string (St (signsL.getD k []))) := (HB.out.cell (p := ⟨w.heap.size, k, none⟩) (by simp)).trans (HC.out k hlt)
      have hpi := pre_is l (signsL.getD k [])
      have hx2 := two_len k hlt
      rw [hx2] at hpi
      have HY := hid (@sign_yes l k (by omega) HA.out)
      have HPI := hid hpi
      clear hpi
      generalize hx : signsL.getD k [] = x at *
      have HX := hid hx
      clear hx
      by_cases h2 : 2 ≤ l.length
      · have h2I : (2 : Int) ≤ l.length := by omega
        have hs := slT l 2 h2
        simp only [show ((2 : Nat) : Int) = 2 from rfl] at hs
        have he := St_eq (l.take 2) x
        cases hc : (l.take 2 == x) with
        | true =>
          have hp : x.isPrefixOf l = true := by rw [HPI.out, hc]; simp [h2]
          have HZ := hid (HY.out hp)
          rw [hc] at he
          clear HY hc hp
          go_upto_region 5 with fail
          go_quiet (fail)
          go_wp2_with fail
          go_ret
          exact ⟨by rw [sgnOf_yes HZ.out]; rfl, below_drewN (below_a HB.out) _⟩
        | false =>
          have HNP := hid (show x.isPrefixOf l = false by rw [HPI.out, hc]; simp)
          rw [hc] at he
          clear HY hc
          go_upto_region 5 with fail
          go_quiet (fail)
          go_wp2_with fail
          go_roundw
          case rel =>
            refine ⟨k + 1, by omega, by go_num, ?_, below_drewN HB.out _⟩
            intro i hi
            rcases Nat.lt_or_ge i k with h | h
            · exact HA.out i h
            · obtain rfl : i = k := by omega
              rw [HX.out]; exact HNP.out
          case measure => simp [intOf]; omega
      · have HNP := hid (show x.isPrefixOf l = false by rw [HPI.out]; simp [h2])
        have h2I : ¬ (2 : Int) ≤ l.length := by omega
        clear HY
        go_upto_region 5 with fail
        go_quiet (fail)
        go_wp2_with fail
        go_roundw
        case rel =>
          refine ⟨k + 1, by omega, by go_num, ?_, below_drewN HB.out _⟩
          intro i hi
          rcases Nat.lt_or_ge i k with h | h
          · exact HA.out i h
          · obtain rfl : i = k := by omega
            rw [HX.out]; exact HNP.out
        case measure => simp [intOf]; omega
    · have hk3 : k = 3 := by omega
      subst hk3
      have hsz8 : (⟨#[124, 44, 40, 41, 58, 61, 60, 62]⟩ : ByteArray).size = 8 := rfl
      have hi0 := idx l 0 h1
      simp only [Int.natCast_zero] at hi0
      have hs := slT l 1 (by omega)
      simp only [show ((1 : Nat) : Int) = 1 from rfl] at hs
      obtain ⟨c, r, hcr⟩ : ∃ c r, l = c :: r := by
        cases l with
        | nil => simp at h1
        | cons c r => exact ⟨c, r, rfl⟩
      have HCR := hid hcr
      have HC0 := hid (show l[0] = c by subst hcr; rfl)
      rw [HC0.out] at hi0
      have HT1 := hid (show l.take 1 = [c] by subst hcr; rfl)
      rw [HT1.out] at hs
      clear hcr
      go_wp2_with fail
      go_loopw [6] (fun i wx => ∃ q : Nat, (q : Int) ≤ 8 ∧ i = .int .i64 q ∧ Hid (∀ i, i < 3 + q → (signsL.getD i []).isPrefixOf l = false) ∧ Hid (Below w.heap.size w wx)) (fun i _ => 8 - (intOf i).toNat)
      case atStart => exact ⟨0, by omega, rfl, HA.out, below_a HB.out⟩
      case round =>
        obtain ⟨q, hq, rfl, HA2, HB2⟩ := hrel
        by_cases hlt2 : q < 8
        · have hqI : (q : Int) < 8 := by omega
          have hio := one_idx q hlt2
          have HY := hid (@sign_yes l (3 + q) (by omega) HA2.out)
          rw [one_is q hlt2] at HY
          have HX := hid (one_is q hlt2)
          generalize oneL.getD q 0 = d at *
          by_cases hcd : c = d
          · subst hcd
            have HZ := hid (HY.out (by rw [HCR.out, pre_one]; simp))
            have hcc : ((c.toNat : Int) == (c.toNat : Int)) = true := by simp
            clear HY
            go_upto_region 11 with fail
            go_quiet (fail)
            go_wp2_with fail
            go_ret
            exact ⟨by rw [sgnOf_yes HZ.out]; rfl, below_drewN HB2.out _⟩
          · have hcc : ¬ (c.toNat : Int) = (d.toNat : Int) := fun e => hcd (UInt8.toNat_inj.1 (by omega))
            have HNP := hid (show [d].isPrefixOf l = false by rw [HCR.out, pre_one]; simp; exact fun e => hcd e.symm)
            clear HY
            go_upto_region 11 with fail
            go_quiet (fail)
            go_wp2_with fail
            go_roundw
            case rel =>
              refine ⟨q + 1, by omega, by go_num, ?_, below_drewN HB2.out _⟩
              intro i hi
              rcases Nat.lt_or_ge i (3 + q) with h | h
              · exact HA2.out i h
              · obtain rfl : i = 3 + q := by omega
                rw [HX.out]; exact HNP.out
            case measure => simp [intOf]; omega
        · have hq8 : q = 8 := by omega
          subst hq8
          have HZ := hid (sgnOf_no (sign_no (l := l) (fun i hi => HA2.out i hi)))
          go_wp2_with fail
          go_ret
          exact ⟨by rw [HZ.out]; rfl, HB2.out⟩
end Go.Proofs.YtomnjckbgmbgmaaGreatDoor
