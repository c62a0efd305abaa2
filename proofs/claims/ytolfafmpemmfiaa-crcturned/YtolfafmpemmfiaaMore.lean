/-
  What crc.More, crc.Sum, crc.Slot and the reference's return, for all bytes.
-/
import Derived.Test.YtolfafmpemmfiaaBase
namespace Go.Proofs.Ytolfafmpemmfiaa
open Go.RowKit

/- A slice of these bytes. -/
def BAt (w : World) (v : Value) (xs : List UInt8) : Prop :=
  ∃ (p : Option Addr) (cap : Nat), v = .slice p xs.length cap ∧ xs.length ≤ cap ∧ (p = none → cap = 0) ∧ cap ≤ maxLen ∧ (xs ≠ [] → ∃ a, p = some a ∧ ∀ (j : Nat) x, xs[j]? = some x → w.cell? (a.add j) = some (.int .u8 (x.toNat : Int)))
theorem cell_on {w w' : World} {a : Addr} {v : Value} (h : w.cell? a = some v) (hb : Below w.heap.size w w') : w'.cell? a = some v :=
  (hb.cell (block_lt_of_cell h)).trans h
theorem BAt.on {w w' : World} {v : Value} {xs : List UInt8} (h : BAt w v xs) (hb : Below w.heap.size w w') : BAt w' v xs := by
  obtain ⟨p, cap, hv, hc, hn, hm, hx⟩ := h
  exact ⟨p, cap, hv, hc, hn, hm, fun hne => let ⟨a, hp, hj⟩ := hx hne; ⟨a, hp, fun j x hjx => cell_on (hj j x hjx) hb⟩⟩
theorem xor_byte (y : W32) (c : UInt8) : bits .xor .u32 (u y) ((c.toNat : Int) % 4294967296) = u (y ^^^ BitVec.ofNat 32 c.toNat) := by
  have := c.toNat_lt
  rw [show (c.toNat : Int) % 4294967296 = (c.toNat : Int) by omega, u_byte, bits_xor]
set_option maxHeartbeats 400000 in
theorem more_any {s : W32} {v : Value} {xs : List UInt8} {w : World} (hv : BAt w v xs) : Calls Try.prog 12 #[.int .u32 (u s), v] w fun e w' => e = .returned (.int .u32 (u (more s xs))) ∧ w' = w := by
  obtain ⟨p, cap, rfl, hcap, hnone, hmax, hx⟩ := hv
  unfold maxLen at hmax
  generalize hn : xs.length = n at *
  generalize hr : more s xs = r
  have HX := hid hx
  have HR := hid hr
  have HN := hid hn
  have hnot := u_not s
  clear hx hr hn
  go_enter Try.func12, Try.ntmps12
  go_wp2
  go_loopw [5, 12] (fun r i wr => ∃ k : Nat, k ≤ n ∧ i = .int .i64 k ∧ r = .int .u32 (u (reg (~~~ s) (xs.take k))) ∧ wr = w) (fun _ i _ => n - (intOf i).toNat)
  case atStart => exact ⟨0, by omega, rfl, rfl, rfl⟩
  case round =>
    obtain ⟨k, hk, rfl, rfl, rfl⟩ := hrel
    generalize hy : reg (~~~ s) (xs.take k) = y
    have HY := hid hy
    clear hy
    by_cases hlt : k < n
    · have hkc : k < xs.length := by rw [HN.out]; exact hlt
      obtain ⟨a, rfl, hj⟩ := HX.out (by intro e; subst e; simp at hkc)
      have hc := hj k _ (List.getElem?_eq_getElem hkc)
      have hxk : xs[k]? = some xs[k] := List.getElem?_eq_getElem hkc
      generalize xs[k] = c at hc hxk
      have HK := hid hxk
      clear hj hxk
      have hq := xor_byte y c
      go_wp2_with (go_at_call 14; refine (through_any (y ^^^ BitVec.ofNat 32 c.toNat) _).mono ?_; rintro e w' ⟨rfl, rfl⟩)
      go_roundw
      case rel => exact ⟨k + 1, by omega, by go_num, by rw [reg_snoc HK.out, HY.out]; rfl, by trivial⟩
      case measure => simp [intOf]; omega
    · have hks : k = n := by omega
      subst hks
      have hnot := u_not y
      go_wp2
      go_ret
      exact ⟨ret_u (by rw [← HR.out, ← HY.out, ← HN.out, List.take_length]; rfl), rfl⟩
theorem and_one (x : W32) : x &&& 1 = if x.toNat % 2 = 1 then 1 else 0 := by
  apply BitVec.eq_of_toNat_eq
  rw [BitVec.toNat_and]
  show x.toNat &&& 1 = _
  rw [Nat.and_one_is_mod]
  split <;> rename_i h
  · rw [h]; rfl
  · rw [show x.toNat % 2 = 0 by omega]; rfl
theorem step_odd {y : W32} (h : u y % 2 = 1) : bits .xor .u32 (u y / 2) 2197175160 = u (stepB y) := by
  rw [u_poly, u_half, bits_xor]
  congr 1
  unfold stepB
  rw [and_one, if_pos (by unfold u at h; omega), show -(1 : W32) = BitVec.allOnes 32 from rfl, BitVec.and_allOnes]
theorem step_even {y : W32} (h : u y % 2 = 0) : u y / 2 = u (stepB y) := by
  rw [u_half]
  congr 1
  unfold stepB
  rw [and_one, if_neg (by unfold u at h; omega), show -(0 : W32) = 0 from rfl]
  simp
theorem u_tmod (y : W32) : (u y).tmod 2 = u y % 2 := by
  have := u_range y
  exact Int.tmod_eq_emod_of_nonneg this.1
theorem test_even {y : W32} (h : u y % 2 = 0) : ((u y).tmod 2 == 1) = false := by rw [u_tmod, h]; rfl
theorem test_odd {y : W32} (h : u y % 2 = 1) : ((u y).tmod 2 == 1) = true := by rw [u_tmod, h]; rfl
set_option maxHeartbeats 400000 in
theorem rmore_any {s : W32} {v : Value} {xs : List UInt8} {w : World} (hv : BAt w v xs) : Calls Try.prog 13 #[.int .u32 (u s), v] w fun e w' => e = .returned (.int .u32 (u (more s xs))) ∧ w' = w := by
  obtain ⟨p, cap, rfl, hcap, hnone, hmax, hx⟩ := hv
  unfold maxLen at hmax
  generalize hn : xs.length = n at *
  generalize hr : more s xs = r
  have HX := hid hx
  have HR := hid hr
  have HN := hid hn
  have hnot := u_not s
  clear hx hr hn
  go_enter Try.func13, Try.ntmps13
  go_wp2
  go_loopw [5, 6] (fun r i wr => ∃ k : Nat, k ≤ n ∧ i = .int .i64 k ∧ r = .int .u32 (u (reg (~~~ s) (xs.take k))) ∧ wr = w) (fun _ i _ => n - (intOf i).toNat)
  case atStart => exact ⟨0, by omega, rfl, rfl, rfl⟩
  case round =>
    obtain ⟨k, hk, rfl, rfl, rfl⟩ := hrel
    generalize hy : reg (~~~ s) (xs.take k) = y
    have HY := hid hy
    clear hy
    by_cases hlt : k < n
    · have hkc : k < xs.length := by rw [HN.out]; exact hlt
      obtain ⟨a, rfl, hj⟩ := HX.out (by intro e; subst e; simp at hkc)
      have hc := hj k _ (List.getElem?_eq_getElem hkc)
      have hxk : xs[k]? = some xs[k] := List.getElem?_eq_getElem hkc
      generalize xs[k] = c at hc hxk
      have HK := hid hxk
      clear hj hxk
      have hq := xor_byte y c
      go_wp2
      go_loopw [5, 7] (fun r i w1 => ∃ j : Nat, j ≤ 8 ∧ i = .int .i64 j ∧ r = .int .u32 (u (iter stepB j (y ^^^ BitVec.ofNat 32 c.toNat))) ∧ w1 = wr) (fun _ i _ => 8 - (intOf i).toNat)
      case atStart => exact ⟨0, by omega, rfl, rfl, rfl⟩
      case round =>
        obtain ⟨j, hj, rfl, rfl, rfl⟩ := hrel
        generalize hz : iter stepB j (y ^^^ BitVec.ofNat 32 c.toNat) = z
        have HZ := hid hz
        clear hz
        by_cases hlt8 : j < 8
        · have hz2 : u z % 2 = 0 ∨ u z % 2 = 1 := by omega
          rcases hz2 with hz2 | hz2
          · have hst := step_even hz2
            have ht := test_even hz2
            clear hz2
            go_wp2
            go_roundw
            case rel => exact ⟨j + 1, by omega, by go_num, by rw [← HZ.out]; rfl, by trivial⟩
            case measure => simp [intOf]; omega
          · have hst := step_odd hz2
            have ht := test_odd hz2
            clear hz2
            go_wp2
            go_roundw
            case rel => exact ⟨j + 1, by omega, by go_num, by rw [← HZ.out]; rfl, by trivial⟩
            case measure => simp [intOf]; omega
        · have hj8 : j = 8 := by omega
          subst hj8
          go_wp2
          go_roundw
          case rel => exact ⟨k + 1, by omega, by go_num, by rw [reg_snoc HK.out, HY.out, ← HZ.out]; rfl, by trivial⟩
          case measure => simp [intOf]; omega
    · have hks : k = n := by omega
      subst hks
      have hnot := u_not y
      go_wp2
      go_ret
      exact ⟨ret_u (by rw [← HR.out, ← HY.out, ← HN.out, List.take_length]; rfl), rfl⟩
end Go.Proofs.Ytolfafmpemmfiaa
