/-
  Numbers as bytes, there and back.
  The reader: what its number and text return, or with what they panic.
  The reader: what its text returns, or with what it panics.
  What wire.appendValue returns, for every value.
  The reader: what its value returns, or with what it panics.
  The reader: what its value returns of a histogram's bytes; and with what it panics.
-/
import Derived.Test.YtlbjbkhcnafhcaaGreatP03CrcOwn
namespace Go.Proofs.YtlbjbkhcnafhcaaGreat.SN
open Go.RowKit Go.Sort

def numS (n : Int) (c : UInt8) : Int := bits .or .i64 (wrap64 (n * 256)) (wrap64 (c.toNat : Int))
def numB (xs : List UInt8) : Int := xs.foldl numS 0
theorem numB_snoc {xs : List UInt8} {k : Nat} {c : UInt8} (h : xs[k]? = some c) : numB (xs.take (k + 1)) = numS (numB (xs.take k)) c := by
  unfold numB
  rw [List.take_add_one, h]
  simp [List.foldl_append]
theorem wrap_i64 (n : Int) : IntKind.i64.wrap n = wrap64 n := by
  unfold IntKind.wrap wrap64
  simp [IntKind.signed, IntKind.bits]
  split <;> omega
theorem or_byte (m : Int) (c : UInt8) : bits .or .i64 (wrap64 (m * 256)) (wrap64 (c.toNat : Int)) = wrap64 (m * 256) + (c.toNat : Int) := by
  have hc := c.toNat_lt
  show IntKind.i64.wrap ((BitVec.ofInt 64 (wrap64 (m * 256)) ||| BitVec.ofInt 64 (wrap64 (c.toNat : Int))).toNat : Int) = _
  rw [wrap_i64, BitVec.toNat_or, BitVec.toNat_ofInt, BitVec.toNat_ofInt]
  have h2 : (wrap64 (c.toNat : Int) % ((2 ^ 64 : Nat) : Int)).toNat = c.toNat := by unfold wrap64; omega
  rw [h2]
  obtain ⟨q, hq⟩ : ∃ q : Nat, (wrap64 (m * 256) % ((2 ^ 64 : Nat) : Int)).toNat = 2 ^ 8 * q := ⟨(wrap64 (m * 256) % ((2 ^ 64 : Nat) : Int)).toNat / 256, by unfold wrap64; omega⟩
  rw [hq, ← Nat.two_pow_add_eq_or_of_lt hc, ← hq]
  unfold wrap64
  omega
def natR : List UInt8 → Int
  | [] => 0
  | c :: xs => (c.toNat : Int) * 256 ^ xs.length + natR xs
theorem pos256 (k : Nat) : (0 : Int) < 256 ^ k := Int.pow_pos (by decide)
theorem natR_range (xs : List UInt8) : 0 ≤ natR xs ∧ natR xs < 256 ^ xs.length := by
  induction xs with
  | nil => simp [natR]
  | cons c xs ih =>
    have hc := c.toNat_lt
    have hp := pos256 xs.length
    simp only [natR, List.length_cons, Int.pow_succ]
    generalize (256 : Int) ^ xs.length = P at *
    have h1 : (c.toNat : Int) * P ≤ 255 * P := Int.mul_le_mul_of_nonneg_right (by omega) (by omega)
    have h2 : 0 ≤ (c.toNat : Int) * P := Int.mul_nonneg (by omega) (by omega)
    constructor <;> omega
theorem numS_wrap (N : Int) (c : UInt8) : numS (wrap64 N) c = wrap64 (N * 256 + (c.toNat : Int)) := by
  have hc := c.toNat_lt
  unfold numS
  rw [or_byte]
  unfold wrap64
  omega
theorem fold_wrap (xs : List UInt8) : ∀ N : Int, xs.foldl numS (wrap64 N) = wrap64 (N * 256 ^ xs.length + natR xs) := by
  induction xs with
  | nil => intro N; simp [natR]
  | cons c xs ih =>
    intro N
    rw [List.foldl_cons, numS_wrap, ih]
    simp only [natR, List.length_cons, Int.pow_succ]
    congr 1
    rw [Int.add_mul, Int.mul_assoc, Int.mul_comm 256, ← Int.mul_assoc, Int.add_assoc]
theorem numB_wrap (xs : List UInt8) : numB xs = wrap64 (natR xs) := by
  have := fold_wrap xs 0
  rw [Int.zero_mul, Int.zero_add, show wrap64 0 = 0 by unfold wrap64; omega] at this
  exact this
theorem pow_eight (k : Nat) : (2 : Int) ^ (8 * k) = 256 ^ k := by rw [Int.pow_mul]; rfl
theorem dig_nat' (n : Int) (k : Nat) : ((dig n k).toNat : Int) = (n / 256 ^ k) % 256 := by rw [dig_nat, pow_eight]
theorem emod_mul' (n a : Int) (ha : 0 < a) : n % (a * 256) = (n / a) % 256 * a + n % a := by
  have h1 := Int.mul_ediv_add_emod n a
  have h2 := Int.mul_ediv_add_emod (n / a) 256
  have h3 := Int.emod_nonneg n (b := a) (by omega)
  have h4 := Int.emod_lt_of_pos n ha
  generalize hr : n % a = r at *
  generalize hq : n / a = q at *
  generalize hd : q % 256 = d at *
  generalize q / 256 = t at *
  have hd0 : 0 ≤ d ∧ d < 256 := by subst hd; exact ⟨Int.emod_nonneg _ (by decide), Int.emod_lt_of_pos _ (by decide)⟩
  have e : (d * a + r) + (a * 256) * t = n := by rw [← h1, ← h2, Int.mul_add, Int.mul_assoc, Int.mul_comm d a]; omega
  have b0 : 0 ≤ d * a := Int.mul_nonneg hd0.1 (by omega)
  have b1 : d * a ≤ 255 * a := Int.mul_le_mul_of_nonneg_right (by omega) (by omega)
  exact ((Int.ediv_emod_unique (by omega)).2 ⟨e, by omega, by omega⟩).2
theorem natR_bigB (n : Int) (k : Nat) : natR (bigB n k) = n % 256 ^ k := by
  induction k with
  | zero => simp [bigB, natR, Int.emod_one]
  | succ k ih => rw [bigB, natR, bigB_len, ih, dig_nat', Int.pow_succ, emod_mul' _ _ (pos256 k)]
theorem bigB_natR (xs : List UInt8) : ∀ t : Int, bigB (natR xs + t * 256 ^ xs.length) xs.length = xs := by
  induction xs with
  | nil => intro t; rfl
  | cons c xs ih =>
    intro t
    have hr := natR_range xs
    have hc := c.toNat_lt
    have hp := pos256 xs.length
    have e : natR (c :: xs) + t * 256 ^ (c :: xs).length = natR xs + ((c.toNat : Int) + t * 256) * 256 ^ xs.length := by
      simp only [natR, List.length_cons, Int.pow_succ, Int.add_mul]
      rw [Int.mul_comm (256 ^ xs.length) 256, ← Int.mul_assoc]
      omega
    rw [e, List.length_cons, bigB, ih]
    congr 1
    apply UInt8.toNat_inj.1
    have h := dig_nat' (natR xs + ((c.toNat : Int) + t * 256) * 256 ^ xs.length) xs.length
    have hdiv : (natR xs + ((c.toNat : Int) + t * 256) * 256 ^ xs.length) / 256 ^ xs.length = (c.toNat : Int) + t * 256 :=
      ((Int.ediv_emod_unique hp).2 ⟨by rw [Int.mul_comm (256 ^ xs.length)], hr.1, hr.2⟩).1
    rw [hdiv] at h
    omega
theorem wrap_some (n : Int) : ∃ t : Int, wrap64 n = n + t * 18446744073709551616 := ⟨-((n + 9223372036854775808) / 18446744073709551616), by unfold wrap64; omega⟩
theorem bigB_numB {xs : List UInt8} (h : xs.length ≤ 8) : bigB (numB xs) xs.length = xs := by
  rw [numB_wrap]
  obtain ⟨t, ht⟩ := wrap_some (natR xs)
  rw [ht]
  have e : t * 18446744073709551616 = (t * 256 ^ (8 - xs.length)) * 256 ^ xs.length := by
    rw [Int.mul_assoc, ← Int.pow_add, show 8 - xs.length + xs.length = 8 by omega]; rfl
  rw [e]
  exact bigB_natR xs _
theorem numB_bigB8 {n : Int} (h0 : -9223372036854775808 ≤ n) (h1 : n ≤ 9223372036854775807) : numB (bigB n 8) = n := by
  rw [numB_wrap, natR_bigB, show (256 : Int) ^ 8 = 18446744073709551616 from rfl]
  unfold wrap64
  omega
theorem numB_bigB {n : Int} {k : Nat} (hk : k ≤ 4) (h0 : 0 ≤ n) (h1 : n < 256 ^ k) : numB (bigB n k) = n := by
  rw [numB_wrap, natR_bigB, Int.emod_eq_of_lt h0 h1]
  have h2 : n < 4294967296 := by
    rcases (show k = 0 ∨ k = 1 ∨ k = 2 ∨ k = 3 ∨ k = 4 by omega) with rfl | rfl | rfl | rfl | rfl <;> simp at h1 <;> omega
  unfold wrap64
  omega
theorem numB_range {xs : List UInt8} (h : xs.length ≤ 4) : 0 ≤ numB xs ∧ numB xs < 256 ^ xs.length := by
  have hr := natR_range xs
  have hk : (256 : Int) ^ xs.length ≤ 4294967296 := by
    generalize xs.length = k at *
    rcases (show k = 0 ∨ k = 1 ∨ k = 2 ∨ k = 3 ∨ k = 4 by omega) with rfl | rfl | rfl | rfl | rfl <;> decide
  rw [numB_wrap]
  generalize (256 : Int) ^ xs.length = P at *
  unfold wrap64
  omega
theorem numB_ok (xs : List UInt8) : -9223372036854775808 ≤ numB xs ∧ numB xs ≤ 9223372036854775807 := by
  rw [numB_wrap]; unfold wrap64; omega
end Go.Proofs.YtlbjbkhcnafhcaaGreat.SN
namespace Go.Proofs.YtlbjbkhcnafhcaaGreat.SN
open Go.RowKit Go.Sort

end Go.Proofs.YtlbjbkhcnafhcaaGreat.SN
namespace Go.Proofs.YtlbjbkhcnafhcaaGreat.SN
open Go.RowKit Go.Sort

theorem numB_one (c : UInt8) : numB [c] = (c.toNat : Int) := by
  have := c.toNat_lt
  rw [numB_wrap, natR, natR]
  simp only [List.length_nil, Int.pow_zero]
  unfold wrap64
  omega
theorem dies_rd {f rb : Nat} {args : Array Value} {w : World} {v : Value} (h : Calls Tryz.prog f args w fun e w' => e = dies v ∧ w' = w) : Calls Tryz.prog f args w fun e w' => e = dies v ∧ Rd rb w w' :=
  h.mono (by rintro e w' ⟨rfl, rfl⟩; exact ⟨rfl, Rd.refl _ _⟩)
end Go.Proofs.YtlbjbkhcnafhcaaGreat.SN
namespace Go.Proofs.YtlbjbkhcnafhcaaGreat.SN
open Go.RowKit Go.Sort

abbrev vcl (x : Vl) : Array Value := #[.int .i64 x.k, .int .i64 x.n, .string x.s, .int .i64 x.h0, .int .i64 x.h1, .int .i64 x.h2, .int .i64 x.h3, .int .i64 x.h4, .int .i64 x.h5, .int .i64 x.h6, .int .i64 x.h7]
theorem valB_1 {x : Vl} (h : x.k = 1) : valB x = bigB x.n 8 := by simp [valB, h]
theorem valB_2 {x : Vl} (h : x.k = 2) : valB x = txtB x.s := by simp [valB, h]
theorem valB_3 {x : Vl} (h : x.k = 3) : valB x = bigB x.n 1 := by simp [valB, h]
theorem valB_4 {x : Vl} (h1 : ¬ x.k = 1) (h2 : ¬ x.k = 2) (h3 : ¬ x.k = 3) : valB x = hisB [x.h0, x.h1, x.h2, x.h3, x.h4, x.h5, x.h6, x.h7] := by simp [valB, h1, h2, h3]
theorem Fr.alloc1 {B : Nat} {w : World} (hB : B ≤ w.heap.size) (o : Obj) : Fr B w (w.alloc o) := (Fr.refl B w).alloc hB o
theorem index42 (a0 a1 a2 a3 a4 a5 a6 a7 : Int) (k : Nat) (hk : k < 8) (w : World) : (Instr.index 38 (H8 a0 a1 a2 a3 a4 a5 a6 a7) (.int .i64 k)).run Tryz.prog w = .ok (.int .i64 (nth8 a0 a1 a2 a3 a4 a5 a6 a7 k)) w := by
  have u3 := Tryz.underlying3
  have u42 := Tryz.underlying38
  have z3 := Tryz.sizeOf3
  have g3 := Tryz.isAgg3
  rcases lt8 hk with rfl | rfl | rfl | rfl | rfl | rfl | rfl | rfl <;> simp [Instr.index, go_sem, nth8]
theorem his_take (a0 a1 a2 a3 a4 a5 a6 a7 : Int) (k : Nat) (hk : k < 8) : hisB (List.take (k + 1) [a0, a1, a2, a3, a4, a5, a6, a7]) = hisB (List.take k [a0, a1, a2, a3, a4, a5, a6, a7]) ++ bigB (nth8 a0 a1 a2 a3 a4 a5 a6 a7 k) 8 := by
  rcases lt8 hk with rfl | rfl | rfl | rfl | rfl | rfl | rfl | rfl <;> simp [hisB, nth8]
set_option maxRecDepth 100000 in
set_option maxHeartbeats 1000000 in
theorem appVal_any {v : Value} {xs : List UInt8} {x : Vl} {B : Nat} {w : World} (hv : OwnB B w v xs) (hB : B ≤ w.heap.size) (hl : xs.length + (x.s.size + 100) ≤ 140737488355328) :
    Calls Tryz.prog 104 #[v, x.val] w fun e w' => ∃ v', e = .returned v' ∧ OwnB B w' v' (xs ++ valB x) ∧ Fr B w w' := by
  have HL := hid hl
  have HV := hid (hv.alloc (.cells (vcl x) 40))
  have HB := hid (Fr.alloc1 hB (.cells (vcl x) 40))
  have HS : Hid (B ≤ (w.alloc (.cells (vcl x) 40)).heap.size) := by rw [World.size_alloc]; exact Nat.le_succ_of_le hB
  clear hv hl
  generalize hr : valB x = r
  have HR := hid hr
  clear hr
  by_cases h1 : x.k = 1
  · have e1 : (x.k == 1) = true := by simpa using h1
    have H1 := hid (valB_1 h1)
    clear h1
    go_enter Tryz.func104, Tryz.ntmps104
    go_wp2_with (first
      | (go_at_call 119; refine (appNum_any (width := 8) HV.out (by decide) HS.out (by have := HL.out; omega)).mono ?_; rintro e w1 ⟨v1, rfl, hown1, hb1⟩))
    go_ret
    exact ⟨_, rfl, by rw [← HR.out, H1.out]; exact hown1, HB.out.trans hb1⟩
  · by_cases h2 : x.k = 2
    · have e1 : (x.k == 1) = false := by simpa using h1
      have e2 : (x.k == 2) = true := by simpa using h2
      have H1 := hid (valB_2 h2)
      clear h1 h2
      go_enter Tryz.func104, Tryz.ntmps104
      go_wp2_with (first
        | (go_at_call 120; refine (appText_any HV.out HS.out (by have := HL.out; omega)).mono ?_; rintro e w1 ⟨v1, rfl, hown1, hb1⟩))
      go_ret
      exact ⟨_, rfl, by rw [← HR.out, H1.out]; exact hown1, HB.out.trans hb1⟩
    · by_cases h3 : x.k = 3
      · have e1 : (x.k == 1) = false := by simpa using h1
        have e2 : (x.k == 2) = false := by simpa using h2
        have e3 : (x.k == 3) = true := by simpa using h3
        have H1 := hid (valB_3 h3)
        clear h1 h2 h3
        go_enter Tryz.func104, Tryz.ntmps104
        go_wp2_with (first
          | (go_at_call 119; refine (appNum_any (width := 1) HV.out (by decide) HS.out (by have := HL.out; omega)).mono ?_; rintro e w1 ⟨v1, rfl, hown1, hb1⟩))
        go_ret
        exact ⟨_, rfl, by rw [← HR.out, H1.out]; exact hown1, HB.out.trans hb1⟩
      · have e1 : (x.k == 1) = false := by simpa using h1
        have e2 : (x.k == 2) = false := by simpa using h2
        have e3 : (x.k == 3) = false := by simpa using h3
        have H1 := hid (valB_4 h1 h2 h3)
        clear h1 h2 h3
        go_enter Tryz.func104, Tryz.ntmps104
        go_wp2
        go_loopw [0, 29] (fun b i wr => ∃ k : Nat, k ≤ 8 ∧ i = .int .i64 k ∧ Hid (OwnB B wr b (xs ++ hisB (List.take k [x.h0, x.h1, x.h2, x.h3, x.h4, x.h5, x.h6, x.h7]))) ∧ Hid (Fr B w wr)) (fun _ i _ => 8 - (intOf i).toNat)
        case atStart => exact ⟨0, by omega, rfl, by simp only [List.take_zero, hisB, List.flatMap_nil, List.append_nil]; exact HV.out, HB.out⟩
        case round =>
          obtain ⟨k, hk, rfl, HO, HBw⟩ := hrel
          by_cases hlt : k < 8
          · have hlen : (xs ++ hisB (List.take k [x.h0, x.h1, x.h2, x.h3, x.h4, x.h5, x.h6, x.h7])).length + 8 ≤ 140737488355328 := by
              have := HL.out; rw [List.length_append, hisB_len, List.length_take]; simp only [List.length_cons, List.length_nil]; omega
            have HLEN := hid hlen
            clear hlen
            have hsz : B ≤ wr.heap.size := Nat.le_trans hB HBw.out.size
            have hidx := index42 x.h0 x.h1 x.h2 x.h3 x.h4 x.h5 x.h6 x.h7 k hlt
            have HT := hid (his_take x.h0 x.h1 x.h2 x.h3 x.h4 x.h5 x.h6 x.h7 k hlt)
            generalize nth8 x.h0 x.h1 x.h2 x.h3 x.h4 x.h5 x.h6 x.h7 k = z at *
            go_wp2_with (first
              | (go_at_call 119; refine (appNum_any (width := 8) HO.out (by decide) hsz HLEN.out).mono ?_; rintro e w1 ⟨v1, rfl, hown1, hb1⟩))
            go_roundw
            case rel => exact ⟨k + 1, by omega, by go_num, by rw [List.append_assoc, ← HT.out] at hown1; exact hown1, HBw.out.trans hb1⟩
            case measure => simp [intOf]; omega
          · obtain rfl : k = 8 := by omega
            go_wp2
            go_ret
            exact ⟨_, rfl, by rw [← HR.out, H1.out]; exact HO.out, HBw.out⟩
end Go.Proofs.YtlbjbkhcnafhcaaGreat.SN
namespace Go.Proofs.YtlbjbkhcnafhcaaGreat.SN
open Go.RowKit Go.Sort

/- Cells that are no bytes. -/
def NoB (cs : Array Value) : Prop := ∀ (o : Nat) t, cs[o]? ≠ some (.int .u8 t)
theorem bat_apart' {w : World} {a : Addr} {b : Nat} {cs : Array Value} {ty : TypeId} {fz : Nat × Nat} {t : Int} (hr : w.heap[b]? = some (.cells cs ty fz)) (hno : NoB cs) (h : w.cell? a = some (.int .u8 t)) : a.block ≠ b := by
  intro e
  subst e
  obtain ⟨b, o, s⟩ := a
  have hs : s = none := World.cell?_spot h
  subst hs
  rw [block_cell hr] at h
  exact hno o t h
theorem BAt.keep {b : Nat} {w w' : World} {v : Value} {xs : List UInt8} {cs : Array Value} {ty : TypeId} {fz : Nat × Nat} (h : BAt w v xs) (hr : w.heap[b]? = some (.cells cs ty fz)) (hno : NoB cs) (hw : Rd b w w') : BAt w' v xs := by
  obtain ⟨p, cap, hv, hc, hn, hm, hx⟩ := h
  refine ⟨p, cap, hv, hc, hn, hm, fun hne => let ⟨a, hp, hj⟩ := hx hne; ⟨a, hp, fun j x hjx => ?_⟩⟩
  have hcell := hj j x hjx
  have hne := bat_apart' hr hno hcell
  exact (World.cell?_of_block (hw.block _ (block_lt_of_cell hcell) hne)).trans hcell
/- The same, with a new block beside it turned. -/
theorem Rd.set {rb b i : Nat} {w w' : World} (h : Rd rb w w') (hb : w.heap.size ≤ b) (u : Value) : Rd rb w (w'.setCell ⟨b, i, none⟩ u) :=
  ⟨h.os, h.tape, h.output, by rw [World.size_setCell]; exact h.size, fun k hk hn => (Below.heap_setCell w' _ u k (by simp; omega)).trans (h.block k hk hn)⟩
abbrev zc : Array Value := #[.int .i64 0, .int .i64 0, .string ⟨#[]⟩, .int .i64 0, .int .i64 0, .int .i64 0, .int .i64 0, .int .i64 0, .int .i64 0, .int .i64 0, .int .i64 0]
abbrev kc (k : Int) : Array Value := #[.int .i64 k, .int .i64 0, .string ⟨#[]⟩, .int .i64 0, .int .i64 0, .int .i64 0, .int .i64 0, .int .i64 0, .int .i64 0, .int .i64 0, .int .i64 0]
theorem noB_vals {k n a0 a1 a2 a3 a4 a5 a6 a7 : Int} {s : ByteArray} : NoB #[.int .i64 k, .int .i64 n, .string s, .int .i64 a0, .int .i64 a1, .int .i64 a2, .int .i64 a3, .int .i64 a4, .int .i64 a5, .int .i64 a6, .int .i64 a7] := by
  intro o t h
  have hlt : o < 11 := by have := (Array.getElem?_eq_some_iff.1 h).1; simpa using this
  rcases (show o = 0 ∨ o = 1 ∨ o = 2 ∨ o = 3 ∨ o = 4 ∨ o = 5 ∨ o = 6 ∨ o = 7 ∨ o = 8 ∨ o = 9 ∨ o = 10 by omega) with rfl | rfl | rfl | rfl | rfl | rfl | rfl | rfl | rfl | rfl | rfl <;> simp at h
def put11 (w : World) (b : Nat) (k n : Int) (s : ByteArray) (a0 a1 a2 a3 a4 a5 a6 a7 : Int) : World :=
  ((((((((((w.setCell ⟨b, 0, none⟩ (.int .i64 k)).setCell ⟨b, 1, none⟩ (.int .i64 n)).setCell ⟨b, 2, none⟩ (.string s)).setCell ⟨b, 3, none⟩ (.int .i64 a0)).setCell ⟨b, 4, none⟩ (.int .i64 a1)).setCell ⟨b, 5, none⟩ (.int .i64 a2)).setCell ⟨b, 6, none⟩ (.int .i64 a3)).setCell ⟨b, 7, none⟩ (.int .i64 a4)).setCell ⟨b, 8, none⟩ (.int .i64 a5)).setCell ⟨b, 9, none⟩ (.int .i64 a6)).setCell ⟨b, 10, none⟩ (.int .i64 a7)
theorem put11_rd (w : World) (b : Nat) (k n : Int) (s : ByteArray) (a0 a1 a2 a3 a4 a5 a6 a7 : Int) : Rd b w (put11 w b k n s a0 a1 a2 a3 a4 a5 a6 a7) := by
  unfold put11
  exact ((((((((((((set_rd _ _ _ _).trans (set_rd _ _ _ _)).trans (set_rd _ _ _ _)).trans (set_rd _ _ _ _)).trans (set_rd _ _ _ _)).trans (set_rd _ _ _ _)).trans (set_rd _ _ _ _)).trans (set_rd _ _ _ _)).trans (set_rd _ _ _ _)).trans (set_rd _ _ _ _)).trans (set_rd _ _ _ _)))
theorem put11_block {w : World} {b : Nat} (k n : Int) (s : ByteArray) (a0 a1 a2 a3 a4 a5 a6 a7 : Int) (h : w.heap[b]? = some (.cells zc 40)) : (put11 w b k n s a0 a1 a2 a3 a4 a5 a6 a7).heap[b]? = some (.cells #[.int .i64 k, .int .i64 n, .string s, .int .i64 a0, .int .i64 a1, .int .i64 a2, .int .i64 a3, .int .i64 a4, .int .i64 a5, .int .i64 a6, .int .i64 a7] 40) := by
  unfold put11
  have h0 : (w.setCell ⟨b, 0, none⟩ (.int .i64 k)).heap[b]? = some (.cells #[.int .i64 k, .int .i64 0, .string ⟨#[]⟩, .int .i64 0, .int .i64 0, .int .i64 0, .int .i64 0, .int .i64 0, .int .i64 0, .int .i64 0, .int .i64 0] 40) := set_block h _
  have h1 : ((w.setCell ⟨b, 0, none⟩ (.int .i64 k)).setCell ⟨b, 1, none⟩ (.int .i64 n)).heap[b]? = some (.cells #[.int .i64 k, .int .i64 n, .string ⟨#[]⟩, .int .i64 0, .int .i64 0, .int .i64 0, .int .i64 0, .int .i64 0, .int .i64 0, .int .i64 0, .int .i64 0] 40) := set_block h0 _
  have h2 : (((w.setCell ⟨b, 0, none⟩ (.int .i64 k)).setCell ⟨b, 1, none⟩ (.int .i64 n)).setCell ⟨b, 2, none⟩ (.string s)).heap[b]? = some (.cells #[.int .i64 k, .int .i64 n, .string s, .int .i64 0, .int .i64 0, .int .i64 0, .int .i64 0, .int .i64 0, .int .i64 0, .int .i64 0, .int .i64 0] 40) := set_block h1 _
  have h3 : ((((w.setCell ⟨b, 0, none⟩ (.int .i64 k)).setCell ⟨b, 1, none⟩ (.int .i64 n)).setCell ⟨b, 2, none⟩ (.string s)).setCell ⟨b, 3, none⟩ (.int .i64 a0)).heap[b]? = some (.cells #[.int .i64 k, .int .i64 n, .string s, .int .i64 a0, .int .i64 0, .int .i64 0, .int .i64 0, .int .i64 0, .int .i64 0, .int .i64 0, .int .i64 0] 40) := set_block h2 _
  have h4 : (((((w.setCell ⟨b, 0, none⟩ (.int .i64 k)).setCell ⟨b, 1, none⟩ (.int .i64 n)).setCell ⟨b, 2, none⟩ (.string s)).setCell ⟨b, 3, none⟩ (.int .i64 a0)).setCell ⟨b, 4, none⟩ (.int .i64 a1)).heap[b]? = some (.cells #[.int .i64 k, .int .i64 n, .string s, .int .i64 a0, .int .i64 a1, .int .i64 0, .int .i64 0, .int .i64 0, .int .i64 0, .int .i64 0, .int .i64 0] 40) := set_block h3 _
  have h5 : ((((((w.setCell ⟨b, 0, none⟩ (.int .i64 k)).setCell ⟨b, 1, none⟩ (.int .i64 n)).setCell ⟨b, 2, none⟩ (.string s)).setCell ⟨b, 3, none⟩ (.int .i64 a0)).setCell ⟨b, 4, none⟩ (.int .i64 a1)).setCell ⟨b, 5, none⟩ (.int .i64 a2)).heap[b]? = some (.cells #[.int .i64 k, .int .i64 n, .string s, .int .i64 a0, .int .i64 a1, .int .i64 a2, .int .i64 0, .int .i64 0, .int .i64 0, .int .i64 0, .int .i64 0] 40) := set_block h4 _
  have h6 : (((((((w.setCell ⟨b, 0, none⟩ (.int .i64 k)).setCell ⟨b, 1, none⟩ (.int .i64 n)).setCell ⟨b, 2, none⟩ (.string s)).setCell ⟨b, 3, none⟩ (.int .i64 a0)).setCell ⟨b, 4, none⟩ (.int .i64 a1)).setCell ⟨b, 5, none⟩ (.int .i64 a2)).setCell ⟨b, 6, none⟩ (.int .i64 a3)).heap[b]? = some (.cells #[.int .i64 k, .int .i64 n, .string s, .int .i64 a0, .int .i64 a1, .int .i64 a2, .int .i64 a3, .int .i64 0, .int .i64 0, .int .i64 0, .int .i64 0] 40) := set_block h5 _
  have h7 : ((((((((w.setCell ⟨b, 0, none⟩ (.int .i64 k)).setCell ⟨b, 1, none⟩ (.int .i64 n)).setCell ⟨b, 2, none⟩ (.string s)).setCell ⟨b, 3, none⟩ (.int .i64 a0)).setCell ⟨b, 4, none⟩ (.int .i64 a1)).setCell ⟨b, 5, none⟩ (.int .i64 a2)).setCell ⟨b, 6, none⟩ (.int .i64 a3)).setCell ⟨b, 7, none⟩ (.int .i64 a4)).heap[b]? = some (.cells #[.int .i64 k, .int .i64 n, .string s, .int .i64 a0, .int .i64 a1, .int .i64 a2, .int .i64 a3, .int .i64 a4, .int .i64 0, .int .i64 0, .int .i64 0] 40) := set_block h6 _
  have h8 : (((((((((w.setCell ⟨b, 0, none⟩ (.int .i64 k)).setCell ⟨b, 1, none⟩ (.int .i64 n)).setCell ⟨b, 2, none⟩ (.string s)).setCell ⟨b, 3, none⟩ (.int .i64 a0)).setCell ⟨b, 4, none⟩ (.int .i64 a1)).setCell ⟨b, 5, none⟩ (.int .i64 a2)).setCell ⟨b, 6, none⟩ (.int .i64 a3)).setCell ⟨b, 7, none⟩ (.int .i64 a4)).setCell ⟨b, 8, none⟩ (.int .i64 a5)).heap[b]? = some (.cells #[.int .i64 k, .int .i64 n, .string s, .int .i64 a0, .int .i64 a1, .int .i64 a2, .int .i64 a3, .int .i64 a4, .int .i64 a5, .int .i64 0, .int .i64 0] 40) := set_block h7 _
  have h9 : ((((((((((w.setCell ⟨b, 0, none⟩ (.int .i64 k)).setCell ⟨b, 1, none⟩ (.int .i64 n)).setCell ⟨b, 2, none⟩ (.string s)).setCell ⟨b, 3, none⟩ (.int .i64 a0)).setCell ⟨b, 4, none⟩ (.int .i64 a1)).setCell ⟨b, 5, none⟩ (.int .i64 a2)).setCell ⟨b, 6, none⟩ (.int .i64 a3)).setCell ⟨b, 7, none⟩ (.int .i64 a4)).setCell ⟨b, 8, none⟩ (.int .i64 a5)).setCell ⟨b, 9, none⟩ (.int .i64 a6)).heap[b]? = some (.cells #[.int .i64 k, .int .i64 n, .string s, .int .i64 a0, .int .i64 a1, .int .i64 a2, .int .i64 a3, .int .i64 a4, .int .i64 a5, .int .i64 a6, .int .i64 0] 40) := set_block h8 _
  have h10 : (((((((((((w.setCell ⟨b, 0, none⟩ (.int .i64 k)).setCell ⟨b, 1, none⟩ (.int .i64 n)).setCell ⟨b, 2, none⟩ (.string s)).setCell ⟨b, 3, none⟩ (.int .i64 a0)).setCell ⟨b, 4, none⟩ (.int .i64 a1)).setCell ⟨b, 5, none⟩ (.int .i64 a2)).setCell ⟨b, 6, none⟩ (.int .i64 a3)).setCell ⟨b, 7, none⟩ (.int .i64 a4)).setCell ⟨b, 8, none⟩ (.int .i64 a5)).setCell ⟨b, 9, none⟩ (.int .i64 a6)).setCell ⟨b, 10, none⟩ (.int .i64 a7)).heap[b]? = some (.cells #[.int .i64 k, .int .i64 n, .string s, .int .i64 a0, .int .i64 a1, .int .i64 a2, .int .i64 a3, .int .i64 a4, .int .i64 a5, .int .i64 a6, .int .i64 a7] 40) := set_block h9 _
  exact h10
theorem Rd.beside {rb b : Nat} {w w1 w2 : World} (h : Rd rb w w1) (h2 : Rd b w1 w2) (hb : w.heap.size ≤ b) : Rd rb w w2 :=
  ⟨h2.os.trans h.os, h2.tape.trans h.tape, h2.output.trans h.output, Nat.le_trans h.size h2.size, fun k hk hn => (h2.block k (Nat.lt_of_lt_of_le hk h.size) (by omega)).trans (h.block k hk hn)⟩
end Go.Proofs.YtlbjbkhcnafhcaaGreat.SN
namespace Go.Proofs.YtlbjbkhcnafhcaaGreat.SN
open Go.RowKit Go.Sort

def gat (f : Nat → Int) (k i : Nat) : Int := if i < k then f i else 0
def hcells (f : Nat → Int) (k : Nat) : Array Value := #[.int .i64 4, .int .i64 0, .string ⟨#[]⟩, .int .i64 (gat f k 0), .int .i64 (gat f k 1), .int .i64 (gat f k 2), .int .i64 (gat f k 3), .int .i64 (gat f k 4), .int .i64 (gat f k 5), .int .i64 (gat f k 6), .int .i64 (gat f k 7)]
theorem hcells_zero (f : Nat → Int) : hcells f 0 = kc 4 := rfl
theorem hcells_set (f : Nat → Int) {k : Nat} (h : k < 8) : (hcells f k).setIfInBounds (3 + k) (.int .i64 (f k)) = hcells f (k + 1) := by
  rcases lt8 h with rfl | rfl | rfl | rfl | rfl | rfl | rfl | rfl <;> rfl
theorem hcells_at (f : Nat → Int) {k : Nat} (h : k < 8) : (hcells f k)[3 + k]? = some (.int .i64 0) := by
  rcases lt8 h with rfl | rfl | rfl | rfl | rfl | rfl | rfl | rfl <;> rfl
theorem noB_hcells (f : Nat → Int) (k : Nat) : NoB (hcells f k) := noB_vals
def bkt (xs : List UInt8) (i : Nat) : Int := numB ((xs.drop (8 * i)).take 8)
theorem drop_next (xs : List UInt8) (k : Nat) : (xs.drop (8 * k)).drop 8 = xs.drop (8 * (k + 1)) := by rw [List.drop_drop]; rfl
end Go.Proofs.YtlbjbkhcnafhcaaGreat.SN
