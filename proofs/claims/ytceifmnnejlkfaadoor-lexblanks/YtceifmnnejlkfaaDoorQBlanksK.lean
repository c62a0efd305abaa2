/-
  What LexBlanks returns.
-/
import Derived.Test.YtceifmnnejlkfaaDoorQBlanksM
import Derived.Test.YtceifmnnejlkfaaDoorQSignsW
import Derived.Laws.AppendOwnNone
import Derived.Deep.DeepCutAuto
namespace Go.Proofs.YtceifmnnejlkfaaDoor
open Go.RowKit Go.Joins

def pat : List UInt8 := [32, 10, 9, 13]
def blk : Nat → List UInt8
  | 0 => []
  | i + 1 => blk i ++ [pat.getD (i % 4) 0]
theorem blk_len : ∀ i, (blk i).length = i
  | 0 => rfl
  | i + 1 => by simp [blk, blk_len i]
theorem blk_bl : ∀ i, ∀ x ∈ blk i, isBl x = true
  | 0, x, hx => by simp [blk] at hx
  | i + 1, x, hx => by
    simp only [blk, List.mem_append, List.mem_singleton] at hx
    rcases hx with hx | hx
    · exact blk_bl i x hx
    · subst hx
      have h4 : i % 4 < 4 := Nat.mod_lt _ (by decide)
      generalize i % 4 = j at h4
      match j, h4 with
      | 0, _ => rfl
      | 1, _ => rfl
      | 2, _ => rfl
      | 3, _ => rfl
theorem slLHp (j : Nat) (w : World) (h : j < 4) : (Instr.slice 9 (.string ⟨#[32, 10, 9, 13]⟩) (some (.int .i64 (j : Int))) (some (.int .i64 ((j : Int) + 1))) none).run Tryd.prog w = .ok (.string (St [pat.getD j 0])) w := by
  have e : (pat.drop j).take 1 = [pat.getD j 0] := by
    match j, h with
    | 0, _ => rfl
    | 1, _ => rfl
    | 2, _ => rfl
    | 3, _ => rfl
  have := slLH pat [pat.getD j 0] j (by show j + 1 ≤ 4; omega) e w
  exact this
theorem pat_sl (j : Nat) (h : j < 4) (w : World) : (Instr.slice 9 (.string ⟨#[32, 10, 9, 13]⟩) (some (.int .i64 (j : Int))) (some (.int .i64 ((j : Int) + 1))) none).run Tryd.prog w = .ok (.string (St [pat.getD j 0])) w := slLHp j w h
/-- append of a whole row. -/
theorem appR {ops : Array Oper} {rest : List Oper} {o : Oper} {a : Act} {Q : Exit → Act → World → Prop} {w : World} {B B' : Nat} {v u : Value} {ts us : List Tk}
    (hgd : o.guard = none) (s x : Operand) (ho : o.op = .call { callee := .builtin .append, args := #[s, x], argTypes := #[23, 23] })
    (hs : a.eval s = v) (hown : Tr B w v ts) (hx : a.eval x = u) (hu : Tr B' w u us) (hn : ts.length + us.length ≤ 1000000) (hB : B ≤ w.heap.size)
    (h : ∀ v' w', Tr B w' v' (ts ++ us) → Below B w w' → wpList Tryd.prog ops Q rest (a.put o.dst v') w') : wpList Tryd.prog ops Q (o :: rest) a w := by
  obtain ⟨i0, hi, hz0, hz1, hz2⟩ := info_parts Tryd.info31
  rcases ownsRow_forms hu with ⟨rfl, h0⟩ | ⟨g, cap, rfl⟩
  · obtain rfl : us = [] := List.eq_nil_of_length_eq_zero h0
    refine wpList_append_own_none hgd s x 23 ho B 31 i0 4 Tryd.underlying23 hi v _ _ hs hown hx ?_
    exact h v w (by rw [List.append_nil]; exact hown) (Below.refl _ _)
  · refine wpList_append_own w hgd s x 23 ho B 31 i0 _ 4 40 Tryd.underlying23 hi hz0 hz1 hz2 rfl (by decide) v ts.length _ hs hown ⟨g, 0, none⟩ us.length cap (tksC us) hx (tksC_len us) ?_ ?_ ?_ ?_ hB ?_
    · intro j c hj
      exact World.ownsRow.cells hu (g := g) rfl j c hj
    · intro c hc
      simp only [tksC, List.mem_flatMap] at hc
      obtain ⟨t, -, hc⟩ := hc
      simp [tkC] at hc; rcases hc with rfl | rfl | rfl | rfl <;> rfl
    · unfold maxLen; omega
    · omega
    · intro v' w' h1 h2 _
      refine h v' w' ?_ ((Below.refl B w).grown h2 hB (fun k e => (hown.lt k e).1))
      unfold Tr
      rw [show tksC (ts ++ us) = tksC ts ++ tksC us by simp [tksC], List.length_append]
      exact h1
end Go.Proofs.YtceifmnnejlkfaaDoor
