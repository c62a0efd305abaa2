/-
  Rows of bytes of a call's own: append, and their text.
-/
import Derived.Test.YtomnjckbgmbgmaaGreatDoorQNum2
import Derived.Lib.SmallJoins
import Derived.Lib.Builder
namespace Go.Proofs.YtomnjckbgmbgmaaGreatDoor
open Go.RowKit Go.Joins

def bytesV (l : List UInt8) : List Value := l.map fun b => .int .u8 (b.toNat : Int)

theorem Tryz.info5 : (Tryz.prog.info? 5).map (fun i => (i.zero, i.size, i.bytes)) = some (some (.int .u8 0), 1, 1) := by kernel_rfl
theorem alloc_cell (w : World) (x : Value) (t : TypeId) : (w.alloc (.cells #[x] t)).cell? ⟨w.heap.size, 0, none⟩ = some x := by simp [go_sem]
theorem app1 {ops : Array Oper} {rest : List Oper} {o : Oper} {a : Act} {Q : Exit → Act → World → Prop} {w : World} {B n : Nat} {xs : List Value} {v c : Value} {g : Nat}
    (hgd : o.guard = none) (s x : Operand) (ho : o.op = .call { callee := .builtin .append, args := #[s, x], argTypes := #[99, 99] })
    (hs : a.eval s = v) (hown : w.ownsRow B 5 1 v n xs) (hx : a.eval x = .slice (some ⟨g, 0, none⟩) 1 1) (hc : w.cell? ⟨g, 0, none⟩ = some c) (h1 : c.oneCell' = true) (hn : n ≤ 1000000) (hB : B ≤ w.heap.size)
    (h : ∀ v' w', w'.ownsRow B 5 1 v' (n + 1) (xs ++ [c]) → Below B w w' → wpList Tryz.prog ops Q rest (a.put o.dst v') w') : wpList Tryz.prog ops Q (o :: rest) a w := by
  obtain ⟨i0, hi, hz0, hz1, hz2⟩ := info_parts Tryz.info5
  refine wpList_append_own w hgd s x 99 ho B 5 i0 (.int .u8 0) 1 1 Tryz.underlying99 hi hz0 hz1 hz2 rfl (by decide) v n xs hs hown ⟨g, 0, none⟩ 1 1 [c] hx rfl ?_ ?_ ?_ ?_ hB ?_
  · intro j u hj
    match j, hj with
    | 0, hj => simp at hj; subst hj; simpa [Addr.add] using hc
  · intro u hu; simp at hu; subst hu; exact h1
  · unfold maxLen; omega
  · omega
  · intro v' w' h1 h2 _
    exact h v' w' h1 ((Below.refl B w).grown h2 hB (fun k e => (hown.lt k e).1))
theorem bytesV_snoc (l : List UInt8) (c : UInt8) : bytesV l ++ [.int .u8 (c.toNat : Int)] = bytesV (l ++ [c]) := by simp [bytesV]

theorem conv_own {w : World} {B n g cap : Nat} {l : List UInt8} (h : w.ownsRow B 5 1 (.slice (some ⟨g, 0, none⟩) n cap) n (bytesV l)) :
    (convert 99 9 (.slice (some ⟨g, 0, none⟩) n cap)).run Tryz.prog w = .ok (.string ⟨l.toArray⟩) w := by
  have hn : n = l.length := by have := h.1; simp [bytesV] at this; omega
  subst hn
  refine run_convert_bytes_back w 99 9 5 ⟨g, 0, none⟩ cap l Tryz.underlying99 Tryz.underlying5 Tryz.underlying9 ?_
  intro j hj
  have hx := h.cells (g := g) rfl j (.int .u8 (l[j].toNat : Int)) (by simp [bytesV, List.getElem?_eq_getElem hj])
  exact hx
theorem own_cast {w : World} {B n m : Nat} {v : Value} {xs ys : List Value} (h : w.ownsRow B 5 1 v n xs) (hn : n = m) (hx : xs = ys) : w.ownsRow B 5 1 v m ys := by subst hn; subst hx; exact h

end Go.Proofs.YtomnjckbgmbgmaaGreatDoor
