/-
  How many bits a word of 64 has: the sums of neighbours, as math/bits reckons them, byte by byte.
-/
import Derived.Test.YtmkilckoeaekkaaQBMath
namespace Go.Proofs.Ytmkilckoeaekkaa

def rep (c : Nat) : Nat → Nat
  | 0 => 0
  | n + 1 => c + 256 * rep c n
theorem rep_succ (c n : Nat) : rep c (n + 1) = c + 256 * rep c n := rfl
theorem and_cat {y r c m : Nat} (hy : y < 256) (hc : c < 256) : (y + 256 * r) &&& (c + 256 * m) = (y &&& c) + 256 * (r &&& m) := by
  have h1 := Nat.and_mod_two_pow (a := y + 256 * r) (b := c + 256 * m) (n := 8)
  have h2 := Nat.and_div_two_pow (a := y + 256 * r) (b := c + 256 * m) (n := 8)
  simp only [show (2 : Nat) ^ 8 = 256 from rfl] at h1 h2
  rw [show (y + 256 * r) % 256 = y by omega, show (c + 256 * m) % 256 = c by omega] at h1
  rw [show (y + 256 * r) / 256 = r by omega, show (c + 256 * m) / 256 = m by omega] at h2
  rw [← h1, ← h2]
  omega
def S1 (n x : Nat) : Nat := ((x / 2) &&& rep 85 n) + (x &&& rep 85 n)
def S2 (n x : Nat) : Nat := ((x / 4) &&& rep 51 n) + (x &&& rep 51 n)
def S3 (n x : Nat) : Nat := (x / 16 + x) &&& rep 15 n
def s1 (y : Nat) : Nat := ((y / 2) &&& 85) + (y &&& 85)
def s2 (y : Nat) : Nat := ((y / 4) &&& 51) + (y &&& 51)
def s3 (y : Nat) : Nat := (y / 16 + y) &&& 15
theorem d1 : ∀ (y : Fin 256) (b : Fin 2), (y.val / 2 + 128 * b.val) &&& 85 = (y.val / 2) &&& 85 := by decide +kernel
theorem d2 : ∀ (y : Fin 256) (b : Fin 4), (y.val / 4 + 64 * b.val) &&& 51 = (y.val / 4) &&& 51 := by decide +kernel
theorem d3 : ∀ (y : Fin 256) (b : Fin 5), (y.val / 16 + y.val + 16 * b.val) &&& 15 = (y.val / 16 + y.val) &&& 15 := by decide +kernel
theorem e1 : ∀ y : Fin 256, s1 y.val < 256 := by decide +kernel
theorem e2 : ∀ y : Fin 256, s2 (s1 y.val) < 69 ∧ s2 (s1 y.val) % 16 ≤ 4 := by decide +kernel
theorem e3 : ∀ y : Fin 256, s3 (s2 (s1 y.val)) ≤ 8 := by decide +kernel
theorem S1_cat {y : Nat} (n r : Nat) (hy : y < 256) : S1 (n + 1) (y + 256 * r) = s1 y + 256 * S1 n r := by
  unfold S1 s1
  rw [rep_succ]
  rw [and_cat hy (by omega), show (y + 256 * r) / 2 = (y / 2 + 128 * (r % 2)) + 256 * (r / 2) by omega, and_cat (by omega) (by omega), d1 ⟨y, hy⟩ ⟨r % 2, by omega⟩]
  simp only []
  omega
theorem S2_cat {y : Nat} (n r : Nat) (hy : y < 256) : S2 (n + 1) (y + 256 * r) = s2 y + 256 * S2 n r := by
  unfold S2 s2
  rw [rep_succ]
  rw [and_cat hy (by omega), show (y + 256 * r) / 4 = (y / 4 + 64 * (r % 4)) + 256 * (r / 4) by omega, and_cat (by omega) (by omega), d2 ⟨y, hy⟩ ⟨r % 4, by omega⟩]
  simp only []
  omega
theorem S3_cat {y : Nat} (n r : Nat) (hy : y < 69) (hr : r % 16 ≤ 4) : S3 (n + 1) (y + 256 * r) = s3 y + 256 * S3 n r := by
  unfold S3 s3
  rw [rep_succ]
  rw [show (y + 256 * r) / 16 + (y + 256 * r) = (y / 16 + y + 16 * (r % 16)) + 256 * (r / 16 + r) by omega, and_cat (by omega) (by omega), d3 ⟨y, by omega⟩ ⟨r % 16, by omega⟩]
theorem S21_mod (n x : Nat) : S2 n (S1 n x) % 16 ≤ 4 := by
  cases n with
  | zero => simp [S2, rep]
  | succ n =>
    have hy : x % 256 < 256 := Nat.mod_lt _ (by omega)
    have hx : x = x % 256 + 256 * (x / 256) := by omega
    have h1 := e1 ⟨x % 256, hy⟩
    have h2 := e2 ⟨x % 256, hy⟩
    simp only [] at h1 h2
    rw [hx, S1_cat n _ hy, S2_cat n _ h1]
    omega
def T (n x : Nat) : Nat := S3 n (S2 n (S1 n x))
def pb (y : Nat) : Nat := s3 (s2 (s1 y))
theorem T_cat {y : Nat} (n r : Nat) (hy : y < 256) : T (n + 1) (y + 256 * r) = pb y + 256 * T n r := by
  have h1 := e1 ⟨y, hy⟩
  have h2 := e2 ⟨y, hy⟩
  simp only [] at h1 h2
  unfold T pb
  rw [S1_cat n r hy, S2_cat n _ h1, S3_cat n _ h2.1 (S21_mod n r)]
/- How many of the first k bits there are. -/
def popN (k x : Nat) : Nat := (List.range k).countP (fun i => x.testBit i)
theorem popN_succ (k x : Nat) : popN (k + 1) x = popN k x + (if x.testBit k then 1 else 0) := by
  unfold popN; rw [List.range_succ, List.countP_append, List.countP_singleton]
theorem popN_cat {y : Nat} (r : Nat) (hy : y < 256) (k : Nat) : popN (8 + k) (y + 256 * r) = popN 8 y + popN k r := by
  induction k with
  | zero =>
    show popN 8 _ = _
    unfold popN
    simp only [List.range_zero, List.countP_nil, Nat.add_zero]
    apply List.countP_congr
    intro i hi
    have hi := List.mem_range.1 hi
    have h : (y + 256 * r).testBit i = y.testBit i := by
      have := Nat.testBit_mod_two_pow (y + 256 * r) 8 i
      rw [show (y + 256 * r) % 2 ^ 8 = y by omega] at this
      rw [this]; simp [hi]
    rw [h]
  | succ k ih =>
    rw [← Nat.add_assoc, popN_succ (8 + k), popN_succ k, ih]
    have h : (y + 256 * r).testBit (8 + k) = r.testBit k := by
      have := Nat.testBit_div_two_pow (x := y + 256 * r) (i := k) (n := 8)
      rw [show (y + 256 * r) / 2 ^ 8 = r by omega] at this
      rw [this, Nat.add_comm k 8]
    rw [h]; omega
theorem pb_pop : ∀ y : Fin 256, pb y.val = popN 8 y.val := by decide +kernel
theorem pb_le {y : Nat} (hy : y < 256) : pb y ≤ 8 := e3 ⟨y, hy⟩
/- The last sums. -/
theorem last_sums {p0 p1 p2 p3 p4 p5 p6 p7 : Nat} (h0 : p0 ≤ 8) (h1 : p1 ≤ 8) (h2 : p2 ≤ 8) (h3 : p3 ≤ 8) (h4 : p4 ≤ 8) (h5 : p5 ≤ 8) (h6 : p6 ≤ 8) (h7 : p7 ≤ 8) {t a b c : Nat}
    (ht : t = p0 + 256 * (p1 + 256 * (p2 + 256 * (p3 + 256 * (p4 + 256 * (p5 + 256 * (p6 + 256 * p7)))))))
    (ha : a = t + t / 256) (hb : b = a + a / 65536) (hc : c = b + b / 4294967296) : c % 128 = p0 + p1 + p2 + p3 + p4 + p5 + p6 + p7 ∧ c < 9223372036854775808 := by
  have t1 : t / 256 = p1 + 256 * (p2 + 256 * (p3 + 256 * (p4 + 256 * (p5 + 256 * (p6 + 256 * p7))))) := by omega
  have a1 : a = (p0 + p1) + 256 * (p1 + p2) + 65536 * ((p2 + p3) + 256 * (p3 + p4) + 65536 * ((p4 + p5) + 256 * (p5 + p6) + 65536 * ((p6 + p7) + 256 * p7))) := by omega
  clear ht t1 ha
  have a2 : a / 65536 = (p2 + p3) + 256 * (p3 + p4) + 65536 * ((p4 + p5) + 256 * (p5 + p6) + 65536 * ((p6 + p7) + 256 * p7)) := by omega
  have b1 : b = (p0 + p1 + p2 + p3) + 256 * (p1 + p2 + p3 + p4) + 65536 * ((p2 + p3 + p4 + p5) + 256 * (p3 + p4 + p5 + p6)) + 4294967296 * ((p4 + p5 + p6 + p7) + 256 * (p5 + p6 + p7) + 65536 * ((p6 + p7) + 256 * p7)) := by omega
  clear a1 a2 hb
  have b2 : b / 4294967296 = (p4 + p5 + p6 + p7) + 256 * (p5 + p6 + p7) + 65536 * ((p6 + p7) + 256 * p7) := by omega
  omega
def sumsOf (t : Nat) : Nat := (t + t / 256) + (t + t / 256) / 65536 + ((t + t / 256) + (t + t / 256) / 65536) / 4294967296
theorem ones_is (x : Nat) : sumsOf (T 8 x) % 128 = popN 64 x ∧ sumsOf (T 8 x) < 9223372036854775808 := by
  have hs : ∀ r, r % 256 < 256 := fun r => Nat.mod_lt _ (by omega)
  have step : ∀ n r, T (n + 1) r = pb (r % 256) + 256 * T n (r / 256) := by
    intro n r
    have := T_cat n (r / 256) (hs r)
    rwa [show r % 256 + 256 * (r / 256) = r by omega] at this
  have pstep : ∀ k r, popN (8 + k) r = pb (r % 256) + popN k (r / 256) := by
    intro k r
    have := popN_cat (r / 256) (hs r) k
    rw [show r % 256 + 256 * (r / 256) = r by omega, ← pb_pop ⟨r % 256, hs r⟩] at this
    exact this
  have ht : T 8 x = pb (x % 256) + 256 * (pb (x / 256 % 256) + 256 * (pb (x / 256 / 256 % 256) + 256 * (pb (x / 256 / 256 / 256 % 256) + 256 * (pb (x / 256 / 256 / 256 / 256 % 256) + 256 * (pb (x / 256 / 256 / 256 / 256 / 256 % 256) + 256 * (pb (x / 256 / 256 / 256 / 256 / 256 / 256 % 256) + 256 * pb (x / 256 / 256 / 256 / 256 / 256 / 256 / 256 % 256))))))) := by
    rw [step, step, step, step, step, step, step, step, show ∀ y, T 0 y = 0 from fun y => by simp [T, S3, rep], Nat.mul_zero, Nat.add_zero]
  have hp : popN 64 x = pb (x % 256) + pb (x / 256 % 256) + pb (x / 256 / 256 % 256) + pb (x / 256 / 256 / 256 % 256) + pb (x / 256 / 256 / 256 / 256 % 256) + pb (x / 256 / 256 / 256 / 256 / 256 % 256) + pb (x / 256 / 256 / 256 / 256 / 256 / 256 % 256) + pb (x / 256 / 256 / 256 / 256 / 256 / 256 / 256 % 256) := by
    rw [pstep 56, pstep 48, pstep 40, pstep 32, pstep 24, pstep 16, pstep 8, pstep 0, show ∀ y, popN 0 y = 0 from fun y => rfl]
    omega
  rw [hp]
  exact last_sums (pb_le (hs _)) (pb_le (hs _)) (pb_le (hs _)) (pb_le (hs _)) (pb_le (hs _)) (pb_le (hs _)) (pb_le (hs _)) (pb_le (hs _)) ht rfl rfl rfl
theorem popN_le (k x : Nat) : popN k x ≤ k := by
  have := List.countP_le_length (p := fun i => x.testBit i) (l := List.range k); simpa [popN] using this
/- The bits of the four words are all of them. -/
theorem cnt_word (F : F256) (j i : Nat) (hi : i ≤ 64) : cntTo F (64 * j + i) = cntTo F (64 * j) + popN i (fw F j).toNat := by
  induction i with
  | zero => rfl
  | succ i ih =>
    rw [← Nat.add_assoc, cntTo_succ, popN_succ, ih (by omega), ← BitVec.testBit_toNat, BitVec.testBit_toNat, BitVec.testBit_toNat, fw_bit]
    simp [show i < 64 by omega]; omega
end Go.Proofs.Ytmkilckoeaekkaa
