/-
  Fingerprints in memory: their four words, how Go compares two, what OnesCount64 and bitOf return.
-/
import Derived.Test.YtmkilckoeaekkaaRows
import Derived.Test.YtmkilckoeaekkaaQPMath
import Derived.WalkKit
import Derived.WalkSpells
import Derived.WalkLawsBesides
import Derived.Deep.RegionWith
import Derived.Deep.Light
import Derived.BigQuiet
import Derived.ChangeKeysEq
import Derived.Handy
namespace Go.Proofs.Ytmkilckoeaekkaa
open Go.RowKit

theorem hid {p : Prop} (h : p) : Hid p := h
def u (x : BitVec 64) : Int := (x.toNat : Int)
theorem u_range (x : BitVec 64) : 0 ≤ u x ∧ u x < 18446744073709551616 := by unfold u; have := x.isLt; omega
theorem u_inj {x y : BitVec 64} (h : u x = u y) : x = y := by unfold u at h; apply BitVec.eq_of_toNat_eq; omega
theorem ofInt_u (x : BitVec 64) : BitVec.ofInt 64 (u x) = x := by
  unfold u; apply BitVec.eq_of_toNat_eq; simp
theorem wrap_u (x : BitVec 64) : IntKind.u64.wrap (u x) = u x := by
  have := u_range x
  unfold IntKind.wrap
  simp [IntKind.signed, IntKind.bits]
  exact Int.emod_eq_of_lt this.1 this.2
theorem bits_or (x y : BitVec 64) : bits .or .u64 (u x) (u y) = u (x ||| y) := by
  show IntKind.u64.wrap ((BitVec.ofInt 64 (u x) ||| BitVec.ofInt 64 (u y)).toNat : Int) = _
  rw [ofInt_u, ofInt_u]; exact wrap_u _
theorem bits_and (x y : BitVec 64) : bits .and .u64 (u x) (u y) = u (x &&& y) := by
  show IntKind.u64.wrap ((BitVec.ofInt 64 (u x) &&& BitVec.ofInt 64 (u y)).toNat : Int) = _
  rw [ofInt_u, ofInt_u]; exact wrap_u _
theorem bits_andN {a c : Nat} (ha : a < 18446744073709551616) (hc : c < 18446744073709551616) : bits .and .u64 (a : Int) (c : Int) = ((a &&& c : Nat) : Int) := by
  have h := bits_and (BitVec.ofNat 64 a) (BitVec.ofNat 64 c)
  unfold u at h
  rw [BitVec.toNat_and, BitVec.toNat_ofNat, BitVec.toNat_ofNat, Nat.mod_eq_of_lt ha, Nat.mod_eq_of_lt hc] at h
  exact h
abbrev B4 (F : F256) : Value := .agg #[.int .u64 (u (fw F 0)), .int .u64 (u (fw F 1)), .int .u64 (u (fw F 2)), .int .u64 (u (fw F 3))]
def eqF (F G : F256) : Bool := F == G
theorem equalIn49 (F G : F256) (d : Nat) (w : World) : (Op.equalIn (d + 2) 49 (B4 F) (B4 G)).run Try.prog w = .ok (eqF F G) w := by
  have u3 := Try.underlying47
  have a3' := Try.isAgg47
  have z3 := Try.sizeOf47
  rw [show d + 2 = (d + 1) + 1 from rfl, Op.equalIn]
  simp only [Sem.run_bind, run_underlying Try.underlying49, Result.andThen_ok]
  simp only [Std.Legacy.Range.forIn_eq_forIn_range', Std.Legacy.Range.size, Nat.sub_zero, Nat.add_sub_cancel, Nat.div_one, List.range'_succ, List.range'_zero, List.forIn_cons, List.forIn_nil]
  go_simp
  unfold eqF
  by_cases h : F = G
  · subst h; simp
  · rw [beq_eq_false_iff_ne.2 h]
    by_cases h0 : u (fw F 0) = u (fw G 0)
    · by_cases h1 : u (fw F 1) = u (fw G 1)
      · by_cases h2 : u (fw F 2) = u (fw G 2)
        · by_cases h3 : u (fw F 3) = u (fw G 3)
          · exact absurd (fw_ext (u_inj h0) (u_inj h1) (u_inj h2) (u_inj h3)) h
          · simp [h0, h1, h2, h3]
        · simp [h0, h1, h2]
      · simp [h0, h1]
    · simp [h0]
theorem eql49 (F G : F256) (w : World) : (Op.equalIn 10000 49 (B4 F) (B4 G)).run Try.prog w = .ok (eqF F G) w := equalIn49 F G 9998 w
theorem wrapN {a : Nat} (h : a < 18446744073709551616) : IntKind.u64.wrap (a : Int) = (a : Int) := by
  unfold IntKind.wrap
  simp [IntKind.signed, IntKind.bits]
  omega
theorem rep_le (c n x : Nat) : x &&& rep c n ≤ rep c n := Nat.and_le_right
theorem one1 {x : Nat} (h : x < 18446744073709551616) : IntKind.u64.wrap (bits .and .u64 ((x : Int) / 2) 6148914691236517205 + bits .and .u64 (x : Int) 6148914691236517205) = (S1 8 x : Nat) ∧ S1 8 x < 18446744073709551616 := by
  have e1 : bits .and .u64 ((x : Int) / 2) 6148914691236517205 = ((x / 2 &&& rep 85 8 : Nat) : Int) := bits_andN (a := x / 2) (c := 6148914691236517205) (by omega) (by omega)
  have e2 : bits .and .u64 (x : Int) 6148914691236517205 = ((x &&& rep 85 8 : Nat) : Int) := bits_andN (c := 6148914691236517205) h (by omega)
  have h1 := rep_le 85 8 (x / 2)
  have h2 := rep_le 85 8 x
  have h3 : rep 85 8 = 6148914691236517205 := rfl
  have hs : S1 8 x < 18446744073709551616 := by unfold S1; omega
  rw [e1, e2, ← Int.natCast_add]
  exact ⟨wrapN hs, hs⟩
theorem one2 {x : Nat} (h : x < 18446744073709551616) : IntKind.u64.wrap (bits .and .u64 ((x : Int) / 4) 3689348814741910323 + bits .and .u64 (x : Int) 3689348814741910323) = (S2 8 x : Nat) ∧ S2 8 x < 7378697629483820647 := by
  have e1 : bits .and .u64 ((x : Int) / 4) 3689348814741910323 = ((x / 4 &&& rep 51 8 : Nat) : Int) := bits_andN (a := x / 4) (c := 3689348814741910323) (by omega) (by omega)
  have e2 : bits .and .u64 (x : Int) 3689348814741910323 = ((x &&& rep 51 8 : Nat) : Int) := bits_andN (c := 3689348814741910323) h (by omega)
  have h1 := rep_le 51 8 (x / 4)
  have h2 := rep_le 51 8 x
  have h3 : rep 51 8 = 3689348814741910323 := rfl
  have hs : S2 8 x < 7378697629483820647 := by unfold S2; omega
  rw [e1, e2, ← Int.natCast_add]
  exact ⟨wrapN (Nat.lt_trans hs (by omega)), hs⟩
theorem one3 {x : Nat} (h : x < 7378697629483820647) : bits .and .u64 (IntKind.u64.wrap ((x : Int) / 16 + (x : Int))) 1085102592571150095 = (S3 8 x : Nat) := by
  have e0 : IntKind.u64.wrap ((x : Int) / 16 + (x : Int)) = ((x / 16 + x : Nat) : Int) := wrapN (a := x / 16 + x) (by omega)
  rw [e0]
  exact bits_andN (a := x / 16 + x) (c := 1085102592571150095) (by omega) (by omega)
theorem one4 {t c : Nat} (h : t + t / c < 18446744073709551616) : IntKind.u64.wrap ((t : Int) + (t : Int) / (c : Int)) = (t + t / c : Nat) := wrapN (a := t + t / c) h
theorem and127 {z : Nat} (h : z < 9223372036854775808) : bits .and .i64 (wrap64 (z : Int)) 127 = ((z % 128 : Nat) : Int) := by
  have e : wrap64 (z : Int) = (z : Int) := by unfold wrap64; omega
  rw [e]
  have e2 : (BitVec.ofInt 64 (z : Int) &&& BitVec.ofInt 64 127).toNat = z % 128 := by
    rw [BitVec.toNat_and, show BitVec.ofInt 64 (z : Int) = BitVec.ofNat 64 z from BitVec.ofInt_natCast .., BitVec.toNat_ofNat, Nat.mod_eq_of_lt (by omega)]
    exact Nat.and_two_pow_sub_one_eq_mod z 7
  show IntKind.i64.wrap ((BitVec.ofInt 64 (z : Int) &&& BitVec.ofInt 64 127).toNat : Int) = _
  rw [e2]
  have := Nat.mod_lt z (show 0 < 128 by omega)
  generalize z % 128 = q at *
  unfold IntKind.wrap
  simp [IntKind.signed, IntKind.bits]
  omega
theorem ret_i {a b : Int} (h : a = b) : Ending.returned (.int .i64 a) = .returned (.int .i64 b) := by rw [h]
theorem bitOf_any (a b c : UInt8) (w : World) : Calls Try.prog 38 #[.int .u8 (a.toNat : Int), .int .u8 (b.toNat : Int), .int .u8 (c.toNat : Int)] w fun e w' => e = .returned (.int .i64 ((961 * a.toNat + 31 * b.toNat + c.toNat) % 256 : Nat)) ∧ w' = w := by
  have ha := a.toNat_lt
  have hb := b.toNat_lt
  have hc := c.toNat_lt
  generalize a.toNat = x at *
  generalize b.toNat = y at *
  generalize c.toNat = z at *
  generalize hr : (961 * x + 31 * y + z) % 256 = r
  have HR := hid hr
  clear hr
  go_enter Try.func38, Try.ntmps38
  go_wp2
  go_ret
  exact ⟨ret_i (by have := HR.out; omega), rfl⟩
end Go.Proofs.Ytmkilckoeaekkaa
