/-
  What the reference's Has returns.
-/
import Derived.Test.YtmkilckoeaekkaaQBase
namespace Go.Proofs.Ytmkilckoeaekkaa
open Go.RowKit

def cells4 (F : F256) : Array Value := #[.int .u64 (u (fw F 0)), .int .u64 (u (fw F 1)), .int .u64 (u (fw F 2)), .int .u64 (u (fw F 3))]
theorem cells4_at (F : F256) {q : Nat} (hq : q < 4) : (cells4 F)[q]? = some (.int .u64 (u (fw F q))) := by
  rcases (show q = 0 ∨ q = 1 ∨ q = 2 ∨ q = 3 by omega) with rfl | rfl | rfl | rfl <;> rfl
theorem list4_at (F : F256) {q : Nat} (hq : q < 4) (h : q < [Value.int .u64 (u (fw F 0)), .int .u64 (u (fw F 1)), .int .u64 (u (fw F 2)), .int .u64 (u (fw F 3))].length) : [Value.int .u64 (u (fw F 0)), .int .u64 (u (fw F 1)), .int .u64 (u (fw F 2)), .int .u64 (u (fw F 3))][q]'h = .int .u64 (u (fw F q)) := by
  rcases (show q = 0 ∨ q = 1 ∨ q = 2 ∨ q = 3 by omega) with rfl | rfl | rfl | rfl <;> rfl
theorem shl_one {r : Nat} (hr : r < 64) : Op.shift .shl .u64 1 .i64 (r : Int) = pure (.int .u64 (u (BitVec.twoPow 64 r))) := by
  rw [shift_shl .u64 .i64 1 r (by omega) (by show (r : Int) ≤ 64; omega)]
  congr 2
  have hp : 2 ^ r < 18446744073709551616 := Nat.pow_lt_pow_right (a := 2) (by omega) (n := 64) hr
  have e : u (BitVec.twoPow 64 r) = ((2 ^ r : Nat) : Int) := by
    unfold u; rw [BitVec.toNat_twoPow, Nat.mod_eq_of_lt hp]
  rw [e, Int.one_mul, Int.toNat_natCast, ← wrapN hp]
  congr 1
theorem u_shr (x : BitVec 64) (r : Nat) : u x / 2 ^ r = u (x >>> r) := by
  unfold u; rw [BitVec.toNat_ushiftRight, Nat.shiftRight_eq_div_pow]
  simp
theorem ret_bool {a b : Bool} (h : a = b) : Ending.returned (.bool a) = .returned (.bool b) := by rw [h]
theorem odd_bit (x : BitVec 64) (r : Nat) : (u (x >>> r) % 2 == 1) = x.getLsbD r := by
  have h : (x >>> r).getLsbD 0 = x.getLsbD r := by rw [BitVec.getLsbD_ushiftRight]; rfl
  rw [← h]
  generalize x >>> r = y
  rw [← BitVec.testBit_toNat, Nat.testBit_zero]
  unfold u
  by_cases e : y.toNat % 2 = 1
  · rw [show ((y.toNat : Int) % 2) = 1 by omega, e]; rfl
  · rw [show ((y.toNat : Int) % 2) = 0 by omega, show y.toNat % 2 = 0 by omega]; rfl
theorem has_any (F : F256) (n : Nat) (hn : n < 256) (w : World) : Calls Try.prog 37 #[B4 F, .int .i64 n] w fun e w' => e = .returned (.bool (F.getLsbD n)) ∧ Below w.heap.size w w' := by
  obtain ⟨q, r, hq, hr, rfl⟩ : ∃ q r, q < 4 ∧ r < 64 ∧ n = 64 * q + r := ⟨n / 64, n % 64, by omega, by omega, by omega⟩
  have hg := list4_at F hq
  have h0 : ((64 * q + r : Nat) : Int) / 64 = (q : Int) := by omega
  have h1 : ((64 * q + r : Nat) : Int) % 64 = (r : Int) := by omega
  have h2 : ((64 * q + r : Nat) : Int).tdiv 64 = (q : Int) := by rw [Int.tdiv_eq_ediv_of_nonneg (by omega)]; exact h0
  have h3 : ((64 * q + r : Nat) : Int).tmod 64 = (r : Int) := by rw [Int.tmod_eq_emod_of_nonneg (by omega)]; exact h1
  have hb : F.getLsbD (64 * q + r) = (fw F q).getLsbD r := by rw [fw_bit]; simp [hr]
  have HS := hid (u_shr (fw F q) r)
  have HO := hid (odd_bit (fw F q) r)
  have H4 : Hid ((u (fw F q >>> r)).tmod 2 = u (fw F q >>> r) % 2) := Int.tmod_eq_emod_of_nonneg (u_range _).1
  rw [hb]
  generalize hN : 64 * q + r = n at *
  generalize (fw F q).getLsbD r = x at *
  generalize fw F q >>> r = y at *
  clear hN hb
  go_enter Try.func37, Try.ntmps37
  go_wp2
  go_ret
  exact ⟨ret_bool (by rw [HS.out, H4.out, HO.out]), (Below.refl _ _).alloc (Nat.le_refl _) _⟩
end Go.Proofs.Ytmkilckoeaekkaa
