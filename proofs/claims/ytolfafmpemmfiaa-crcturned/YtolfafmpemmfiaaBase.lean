/-
  The register of the sum: one bit's step, eight of them, and what crc.through returns.
-/
import Derived.Test.YtolfafmpemmfiaaRows
import Derived.WalkKit
import Derived.WalkSpells
import Derived.WalkLawsBesides
import Derived.Deep.RegionWith
import Derived.Deep.Light
import Derived.BigQuiet
import Derived.ChangeKeysEq
import Derived.Lib.SlBytesConst
namespace Go.Proofs.Ytolfafmpemmfiaa
open Go.RowKit

theorem hid {p : Prop} (h : p) : Hid p := h
abbrev W32 := BitVec 32
def u (x : W32) : Int := (x.toNat : Int)
def poly : W32 := 0x82f63b78
def stepB (x : W32) : W32 := (x >>> (1 : Nat)) ^^^ (poly &&& (-(x &&& 1)))
def iter (f : W32 → W32) : Nat → W32 → W32
  | 0, x => x
  | k + 1, x => f (iter f k x)
def thr (x : W32) : W32 := iter stepB 8 x
theorem u_range (x : W32) : 0 ≤ u x ∧ u x < 4294967296 := by unfold u; have := x.isLt; omega
theorem u_inj {x y : W32} (h : u x = u y) : x = y := by unfold u at h; apply BitVec.eq_of_toNat_eq; omega
theorem ofInt_u (x : W32) : BitVec.ofInt 32 (u x) = x := by
  unfold u; apply BitVec.eq_of_toNat_eq; simp
theorem wrap_u (x : W32) : IntKind.u32.wrap (u x) = u x := by
  have := u_range x
  unfold IntKind.wrap
  simp [IntKind.signed, IntKind.bits]
  exact Int.emod_eq_of_lt this.1 this.2
theorem bits_xor (x y : W32) : bits .xor .u32 (u x) (u y) = u (x ^^^ y) := by
  show IntKind.u32.wrap ((BitVec.ofInt 32 (u x) ^^^ BitVec.ofInt 32 (u y)).toNat : Int) = _
  rw [ofInt_u, ofInt_u]; exact wrap_u _
theorem bits_and (x y : W32) : bits .and .u32 (u x) (u y) = u (x &&& y) := by
  show IntKind.u32.wrap ((BitVec.ofInt 32 (u x) &&& BitVec.ofInt 32 (u y)).toNat : Int) = _
  rw [ofInt_u, ofInt_u]; exact wrap_u _
theorem u_half (x : W32) : u x / (2 : Int) = u (x >>> (1 : Nat)) := by
  unfold u; simp [BitVec.toNat_ushiftRight, Nat.shiftRight_succ]
theorem u_one : (1 : Int) = u 1 := rfl
theorem u_poly : (2197175160 : Int) = u poly := rfl
theorem u_neg (x : W32) : -(u x) % 4294967296 = u (-x) := by
  unfold u
  have := x.isLt
  rw [BitVec.toNat_neg]
  omega
theorem step_val (y : W32) : bits .xor .u32 (u y / 2) (bits .and .u32 2197175160 (-bits .and .u32 (u y) 1 % 4294967296)) = u (stepB y) := by
  rw [u_poly, u_half, show bits .and .u32 (u y) 1 = u (y &&& 1) from bits_and y 1, u_neg, bits_and, bits_xor]; rfl
theorem ret_u {a b : W32} (h : a = b) : Ending.returned (.int .u32 (u a)) = .returned (.int .u32 (u b)) := by rw [h]
set_option maxHeartbeats 400000 in
theorem through_any (x : W32) (w : World) : Calls Try.prog 14 #[.int .u32 (u x)] w fun e w' => e = .returned (.int .u32 (u (thr x))) ∧ w' = w := by
  generalize hr : thr x = r
  have HR := hid hr
  clear hr
  go_enter Try.func14, Try.ntmps14
  go_wp2
  go_loopw [0, 4] (fun r i wr => ∃ k : Nat, k ≤ 8 ∧ i = .int .i64 k ∧ r = .int .u32 (u (iter stepB k x)) ∧ wr = w) (fun _ i _ => 8 - (intOf i).toNat)
  case atStart => exact ⟨0, by omega, rfl, rfl, rfl⟩
  case round =>
    obtain ⟨k, hk, rfl, rfl, rfl⟩ := hrel
    generalize hy : iter stepB k x = y
    have HY := hid hy
    clear hy
    by_cases hlt : k < 8
    · go_wp2
      go_roundw
      case rel => exact ⟨k + 1, by omega, by go_num, by rw [step_val, ← HY.out]; rfl, by trivial⟩
      case measure => simp [intOf]; omega
    · have hk8 : k = 8 := by omega
      subst hk8
      go_wp2
      go_ret
      exact ⟨ret_u (by rw [← HY.out, ← HR.out]; rfl), rfl⟩
/- Over bytes: the register goes on. -/
def byteStep (r : W32) (c : UInt8) : W32 := thr (r ^^^ BitVec.ofNat 32 c.toNat)
def reg (r : W32) (xs : List UInt8) : W32 := xs.foldl byteStep r
def more (s : W32) (xs : List UInt8) : W32 := ~~~ (reg (~~~ s) xs)
theorem u_byte (c : UInt8) : (c.toNat : Int) = u (BitVec.ofNat 32 c.toNat) := by
  have := c.toNat_lt
  unfold u; simp
theorem u_not (x : W32) : bits .xor .u32 IntKind.u32.max (u x) = u (~~~ x) := by
  rw [show IntKind.u32.max = u (BitVec.allOnes 32) from rfl, bits_xor]
  congr 1
theorem more_append (s : W32) (xs ys : List UInt8) : more s (xs ++ ys) = more (more s xs) ys := by
  unfold more reg
  rw [List.foldl_append, BitVec.not_not]
theorem reg_snoc {xs : List UInt8} {k : Nat} {c : UInt8} (h : xs[k]? = some c) (r : W32) : reg r (xs.take (k + 1)) = byteStep (reg r (xs.take k)) c := by
  unfold reg
  rw [List.take_add_one, h]
  simp [List.foldl_append]
end Go.Proofs.Ytolfafmpemmfiaa
