/-
  One bit that is turned turns the sum.
-/
import Derived.Test.YtjfholofgohcjaaPH
namespace Go.Proofs.Ytjfholofgohcjaa
open Go.RowKit

theorem stepB_odd {x : W32} (h : x.toNat % 2 = 1) : stepB x = (x >>> (1 : Nat)) ^^^ poly := by
  unfold stepB
  rw [and_one, if_pos h, show -(1 : W32) = BitVec.allOnes 32 from rfl, BitVec.and_allOnes]
theorem stepB_even {x : W32} (h : ¬ x.toNat % 2 = 1) : stepB x = x >>> (1 : Nat) := by
  unfold stepB
  rw [and_one, if_neg h, show -(0 : W32) = 0 from rfl]
  simp
theorem half_inj {x y : W32} (h : x >>> (1 : Nat) = y >>> (1 : Nat)) (hp : x.toNat % 2 = y.toNat % 2) : x = y := by
  have := congrArg BitVec.toNat h
  simp [BitVec.toNat_ushiftRight, Nat.shiftRight_succ] at this
  apply BitVec.eq_of_toNat_eq
  omega
theorem half_top (x : W32) : (x >>> (1 : Nat)).getLsbD 31 = false := by simp
theorem poly_top : poly.getLsbD 31 = true := by decide
theorem stepB_inj {x y : W32} (h : stepB x = stepB y) : x = y := by
  by_cases hx : x.toNat % 2 = 1 <;> by_cases hy : y.toNat % 2 = 1
  · rw [stepB_odd hx, stepB_odd hy] at h
    exact half_inj ((BitVec.xor_left_inj _).1 h) (by omega)
  · rw [stepB_odd hx, stepB_even hy] at h
    have := congrArg (fun z => BitVec.getLsbD z 31) h
    simp only [BitVec.getLsbD_xor, half_top, poly_top] at this
    cases this
  · rw [stepB_even hx, stepB_odd hy] at h
    have := congrArg (fun z => BitVec.getLsbD z 31) h
    simp only [BitVec.getLsbD_xor, half_top, poly_top] at this
    cases this
  · rw [stepB_even hx, stepB_even hy] at h
    exact half_inj h (by omega)
theorem iter_inj {f : W32 → W32} (hf : ∀ x y, f x = f y → x = y) : ∀ (k : Nat) (x y : W32), iter f k x = iter f k y → x = y
  | 0, _, _, h => h
  | k + 1, x, y, h => iter_inj hf k x y (hf _ _ h)
theorem thr_inj {x y : W32} (h : thr x = thr y) : x = y := iter_inj (fun _ _ => stepB_inj) 8 x y h
theorem byteStep_inj {r r' : W32} {c : UInt8} (h : byteStep r c = byteStep r' c) : r = r' := (BitVec.xor_left_inj _).1 (thr_inj h)
theorem byteStep_byte {r : W32} {c c' : UInt8} (h : byteStep r c = byteStep r c') : c = c' := by
  have h1 := (BitVec.xor_right_inj _).1 (thr_inj h)
  have h2 := congrArg BitVec.toNat h1
  have := c.toNat_lt
  have := c'.toNat_lt
  rw [BitVec.toNat_ofNat, BitVec.toNat_ofNat] at h2
  apply UInt8.toNat_inj.1
  omega
theorem reg_inj : ∀ {xs : List UInt8} {r r' : W32}, reg r xs = reg r' xs → r = r'
  | [], _, _, h => h
  | _ :: xs, _, _, h => byteStep_inj (reg_inj (xs := xs) h)
theorem reg_append (r : W32) (xs ys : List UInt8) : reg r (xs ++ ys) = reg (reg r xs) ys := List.foldl_append
theorem more_turned {s : W32} {xs : List UInt8} {k : Nat} {x y : UInt8} (hx : xs[k]? = some x) (hne : y ≠ x) : more s (xs.set k y) ≠ more s xs := by
  intro h
  have hk : k < xs.length := (List.getElem?_eq_some_iff.1 hx).1
  have hxk : xs[k] = x := (List.getElem?_eq_some_iff.1 hx).2
  unfold more at h
  have h' : reg (~~~ s) (xs.set k y) = reg (~~~ s) xs := by
    have := congrArg (fun z => ~~~ z) h
    simpa only [BitVec.not_not] using this
  have e1 : xs = xs.take k ++ x :: xs.drop (k + 1) := by rw [← hxk, ← List.drop_eq_getElem_cons hk, List.take_append_drop]
  have e2 : xs.set k y = xs.take k ++ y :: xs.drop (k + 1) := by rw [List.set_eq_take_append_cons_drop, if_pos hk]
  rw [e2] at h'
  rw [show reg (~~~ s) xs = reg (~~~ s) (xs.take k ++ x :: xs.drop (k + 1)) from congrArg _ e1, reg_append, reg_append] at h'
  exact hne (byteStep_byte (reg_inj (xs := xs.drop (k + 1)) h'))
/- The byte with its bit turned. -/
def turned (x : UInt8) (j : Nat) : UInt8 := UInt8.ofNat (x.toNat ^^^ 2 ^ j)
theorem pow_lt {j : Nat} (hj : j < 8) : 2 ^ j < 256 := Nat.lt_of_lt_of_le (Nat.pow_lt_pow_right (by decide) hj) (by decide)
theorem turned_nat {x : UInt8} {j : Nat} (hj : j < 8) : (turned x j).toNat = x.toNat ^^^ 2 ^ j := by
  unfold turned
  rw [UInt8.toNat_ofNat', Nat.mod_eq_of_lt]
  exact Nat.xor_lt_two_pow (n := 8) x.toNat_lt (pow_lt hj)
theorem turned_ne {x : UInt8} {j : Nat} (hj : j < 8) : turned x j ≠ x := by
  intro h
  have := congrArg UInt8.toNat h
  rw [turned_nat hj] at this
  have := congrArg (fun z => x.toNat ^^^ z) this
  simp [← Nat.xor_assoc] at this
theorem turned_bits {x : UInt8} {j : Nat} (hj : j < 8) : bits .xor .u8 (x.toNat : Int) (2 ^ j % 256) = ((turned x j).toNat : Int) := by
  rw [turned_nat hj]
  have hp := pow_lt hj
  have e : (2 : Int) ^ j % 256 = ((2 ^ j : Nat) : Int) := by
    rw [show (2 : Int) ^ j = ((2 ^ j : Nat) : Int) by simp]
    generalize 2 ^ j = m at hp
    omega
  rw [e]
  show IntKind.u8.wrap ((BitVec.ofInt 8 (x.toNat : Int) ^^^ BitVec.ofInt 8 ((2 ^ j : Nat) : Int)).toNat : Int) = _
  rw [BitVec.ofInt_natCast, BitVec.ofInt_natCast, BitVec.toNat_xor, BitVec.toNat_ofNat, BitVec.toNat_ofNat, Nat.mod_eq_of_lt x.toNat_lt, Nat.mod_eq_of_lt hp]
  have hlt : x.toNat ^^^ 2 ^ j < 256 := Nat.xor_lt_two_pow (n := 8) x.toNat_lt hp
  unfold IntKind.wrap
  simp only [IntKind.signed, IntKind.bits]
  simp
  omega
end Go.Proofs.Ytjfholofgohcjaa
