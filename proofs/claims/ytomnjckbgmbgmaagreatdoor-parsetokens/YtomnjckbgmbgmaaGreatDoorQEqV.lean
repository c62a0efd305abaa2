/-
  Two values, two aggregates that are the same.
-/
import Derived.Test.YtomnjckbgmbgmaaGreatDoorQPRn
namespace Go.Proofs.YtomnjckbgmbgmaaGreatDoor
open Go.RowKit Go.Joins

/- A value's eleven cells, written out; its buckets' eight. -/
abbrev V (k n : Int) (s : ByteArray) (a0 a1 a2 a3 a4 a5 a6 a7 : Int) : Value := .agg #[.int .i64 k, .int .i64 n, .string s, .int .i64 a0, .int .i64 a1, .int .i64 a2, .int .i64 a3, .int .i64 a4, .int .i64 a5, .int .i64 a6, .int .i64 a7]
abbrev H8 (a0 a1 a2 a3 a4 a5 a6 a7 : Int) : Value := .agg #[.int .i64 a0, .int .i64 a1, .int .i64 a2, .int .i64 a3, .int .i64 a4, .int .i64 a5, .int .i64 a6, .int .i64 a7]

def eqH (a0 a1 a2 a3 a4 a5 a6 a7 b0 b1 b2 b3 b4 b5 b6 b7 : Int) : Bool :=
  decide (a0 = b0 ∧ a1 = b1 ∧ a2 = b2 ∧ a3 = b3 ∧ a4 = b4 ∧ a5 = b5 ∧ a6 = b6 ∧ a7 = b7)
def eqV (k n : Int) (s : ByteArray) (a0 a1 a2 a3 a4 a5 a6 a7 : Int) (k' n' : Int) (s' : ByteArray) (b0 b1 b2 b3 b4 b5 b6 b7 : Int) : Bool :=
  decide (k = k' ∧ n = n' ∧ s = s') && eqH a0 a1 a2 a3 a4 a5 a6 a7 b0 b1 b2 b3 b4 b5 b6 b7

theorem equalIn22 (a0 a1 a2 a3 a4 a5 a6 a7 b0 b1 b2 b3 b4 b5 b6 b7 : Int) (d : Nat) (w : World) :
    (Op.equalIn (d + 2) 45 (H8 a0 a1 a2 a3 a4 a5 a6 a7) (H8 b0 b1 b2 b3 b4 b5 b6 b7)).run Tryz.prog w = .ok (eqH a0 a1 a2 a3 a4 a5 a6 a7 b0 b1 b2 b3 b4 b5 b6 b7) w := by
  have u3 := Tryz.underlying3
  have a3' := Tryz.isAgg3
  have z3 := Tryz.sizeOf3
  rw [show d + 2 = (d + 1) + 1 from rfl, Op.equalIn]
  simp only [Sem.run_bind, run_underlying Tryz.underlying45, Result.andThen_ok]
  simp only [Std.Legacy.Range.forIn_eq_forIn_range', Std.Legacy.Range.size, Nat.sub_zero, Nat.add_sub_cancel, Nat.div_one, List.range'_succ, List.range'_zero, List.forIn_cons, List.forIn_nil]
  go_simp
  unfold eqH
  by_cases h0 : a0 = b0
  · by_cases h1 : a1 = b1
    · by_cases h2 : a2 = b2
      · by_cases h3 : a3 = b3
        · by_cases h4 : a4 = b4
          · by_cases h5 : a5 = b5
            · by_cases h6 : a6 = b6
              · by_cases h7 : a7 = b7 <;> simp [h0, h1, h2, h3, h4, h5, h6, h7]
              · simp [h0, h1, h2, h3, h4, h5, h6]
            · simp [h0, h1, h2, h3, h4, h5]
          · simp [h0, h1, h2, h3, h4]
        · simp [h0, h1, h2, h3]
      · simp [h0, h1, h2]
    · simp [h0, h1]
  · simp [h0]
theorem eql22 (a0 a1 a2 a3 a4 a5 a6 a7 b0 b1 b2 b3 b4 b5 b6 b7 : Int) (w : World) :
    (Op.equalIn 10000 45 (H8 a0 a1 a2 a3 a4 a5 a6 a7) (H8 b0 b1 b2 b3 b4 b5 b6 b7)).run Tryz.prog w = .ok (eqH a0 a1 a2 a3 a4 a5 a6 a7 b0 b1 b2 b3 b4 b5 b6 b7) w :=
  equalIn22 _ _ _ _ _ _ _ _ _ _ _ _ _ _ _ _ 9998 w
theorem bytes_beq (s t : ByteArray) : (s.toList == t.toList) = decide (s = t) := by
  by_cases h : s = t
  · subst h; simp
  · have : ¬ s.toList = t.toList := fun e => h (bytes_toList_inj e)
    simp [h, this]
theorem equalIn24 (k n : Int) (s : ByteArray) (a0 a1 a2 a3 a4 a5 a6 a7 : Int) (k' n' : Int) (s' : ByteArray) (b0 b1 b2 b3 b4 b5 b6 b7 : Int) (d : Nat) (w : World) :
    (Op.equalIn (d + 3) 47 (V k n s a0 a1 a2 a3 a4 a5 a6 a7) (V k' n' s' b0 b1 b2 b3 b4 b5 b6 b7)).run Tryz.prog w = .ok (eqV k n s a0 a1 a2 a3 a4 a5 a6 a7 k' n' s' b0 b1 b2 b3 b4 b5 b6 b7) w := by
  have u3 := Tryz.underlying3
  have a3' := Tryz.isAgg3
  have z3 := Tryz.sizeOf3
  have u9 := Tryz.underlying9
  have a9' := Tryz.isAgg9
  have z9 := Tryz.sizeOf9
  have a22' := Tryz.isAgg45
  have z22 := Tryz.sizeOf45
  have hS : Tryz.prog.underlying 47 = some (.struct (Tryz.prog.fieldsOf 47)) := by kernel_rfl
  have e22 := equalIn22 a0 a1 a2 a3 a4 a5 a6 a7 b0 b1 b2 b3 b4 b5 b6 b7 d
  rw [show d + 3 = (d + 2) + 1 from rfl, run_equalIn_agg w (d + 2) 47 _ _ hS Tryz.stoodInHeld47]
  simp only [Program.fieldsOf, Tryz.underlying47]
  have hb := bytes_beq s s'
  go_simp
  unfold eqV
  by_cases h0 : k = k'
  · by_cases h1 : n = n'
    · by_cases h2 : s = s'
      · cases eqH a0 a1 a2 a3 a4 a5 a6 a7 b0 b1 b2 b3 b4 b5 b6 b7 <;> simp [h0, h1, h2]
      · simp [h0, h1, h2]
    · simp [h0, h1]
  · simp [h0]
theorem eql24 (k n : Int) (s : ByteArray) (a0 a1 a2 a3 a4 a5 a6 a7 : Int) (k' n' : Int) (s' : ByteArray) (b0 b1 b2 b3 b4 b5 b6 b7 : Int) (w : World) :
    (Op.equalIn 10000 47 (V k n s a0 a1 a2 a3 a4 a5 a6 a7) (V k' n' s' b0 b1 b2 b3 b4 b5 b6 b7)).run Tryz.prog w = .ok (eqV k n s a0 a1 a2 a3 a4 a5 a6 a7 k' n' s' b0 b1 b2 b3 b4 b5 b6 b7) w :=
  equalIn24 _ _ _ _ _ _ _ _ _ _ _ _ _ _ _ _ _ _ _ _ _ _ 9997 w
theorem eql_val (x : Int × Int × List UInt8) (w : World) : (Op.equalIn 10000 47 (.agg (VlV x)) (.agg (VlV x))).run Tryz.prog w = .ok true w := by
  have := eql24 x.1 x.2.1 (St x.2.2) 0 0 0 0 0 0 0 0 x.1 x.2.1 (St x.2.2) 0 0 0 0 0 0 0 0 w
  rw [this]; simp [eqV, eqH]
set_option maxRecDepth 100000 in
theorem eql_agg (k : Int) (s : ByteArray) (w : World) : (Op.equalIn 10000 80 (.agg #[.int .i64 k, .string s]) (.agg #[.int .i64 k, .string s])).run Tryz.prog w = .ok true w := by
  have u3 := Tryz.underlying3
  have a3' := Tryz.isAgg3
  have z3 := Tryz.sizeOf3
  have u9 := Tryz.underlying9
  have a9' := Tryz.isAgg9
  have z9 := Tryz.sizeOf9
  have hS : Tryz.prog.underlying 80 = some (.struct (Tryz.prog.fieldsOf 80)) := by kernel_rfl
  rw [show (10000 : Nat) = 9999 + 1 from rfl, run_equalIn_agg w 9999 80 _ _ hS Tryz.stoodInHeld80]
  simp only [Program.fieldsOf, Tryz.underlying80]
  have hb := bytes_beq s s
  go_simp
end Go.Proofs.YtomnjckbgmbgmaaGreatDoor
