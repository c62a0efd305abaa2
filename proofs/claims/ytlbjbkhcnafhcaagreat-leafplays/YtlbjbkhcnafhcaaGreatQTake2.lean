/-
  What wire.Take returns.
-/
import Derived.Test.YtlbjbkhcnafhcaaGreatP05Take
import Derived.Deep.CutRange
namespace Go.Proofs.YtlbjbkhcnafhcaaGreat.SN
open Go.RowKit Go.Sort

theorem no_other {c : Code} {K : Act → World → Prop} {Q : Exit → Act → World → Prop} {a : Act} {w : World} (h : Code.wp Tryz.prog c (Exit.then K (fun _ _ _ => False)) a w) : Code.wp Tryz.prog c (Exit.then K Q) a w := by
  refine Code.wp_mono (fun e a w hq => ?_) h
  cases e with
  | normal => exact hq
  | _ => exact False.elim hq
theorem put11_over {w : World} {b : Nat} {d0 d1 d2 d3 d4 d5 d6 d7 d8 d9 d10 : Value} (k n : Int) (s : ByteArray) (a0 a1 a2 a3 a4 a5 a6 a7 : Int) (h : w.heap[b]? = some (.cells #[d0, d1, d2, d3, d4, d5, d6, d7, d8, d9, d10] 40)) : (put11 w b k n s a0 a1 a2 a3 a4 a5 a6 a7).heap[b]? = some (.cells #[.int .i64 k, .int .i64 n, .string s, .int .i64 a0, .int .i64 a1, .int .i64 a2, .int .i64 a3, .int .i64 a4, .int .i64 a5, .int .i64 a6, .int .i64 a7] 40) := by
  unfold put11
  have h0 : (w.setCell ⟨b, 0, none⟩ (.int .i64 k)).heap[b]? = some (.cells #[.int .i64 k, d1, d2, d3, d4, d5, d6, d7, d8, d9, d10] 40) := set_block h _
  have h1 : ((w.setCell ⟨b, 0, none⟩ (.int .i64 k)).setCell ⟨b, 1, none⟩ (.int .i64 n)).heap[b]? = some (.cells #[.int .i64 k, .int .i64 n, d2, d3, d4, d5, d6, d7, d8, d9, d10] 40) := set_block h0 _
  have h2 : (((w.setCell ⟨b, 0, none⟩ (.int .i64 k)).setCell ⟨b, 1, none⟩ (.int .i64 n)).setCell ⟨b, 2, none⟩ (.string s)).heap[b]? = some (.cells #[.int .i64 k, .int .i64 n, .string s, d3, d4, d5, d6, d7, d8, d9, d10] 40) := set_block h1 _
  have h3 : ((((w.setCell ⟨b, 0, none⟩ (.int .i64 k)).setCell ⟨b, 1, none⟩ (.int .i64 n)).setCell ⟨b, 2, none⟩ (.string s)).setCell ⟨b, 3, none⟩ (.int .i64 a0)).heap[b]? = some (.cells #[.int .i64 k, .int .i64 n, .string s, .int .i64 a0, d4, d5, d6, d7, d8, d9, d10] 40) := set_block h2 _
  have h4 : (((((w.setCell ⟨b, 0, none⟩ (.int .i64 k)).setCell ⟨b, 1, none⟩ (.int .i64 n)).setCell ⟨b, 2, none⟩ (.string s)).setCell ⟨b, 3, none⟩ (.int .i64 a0)).setCell ⟨b, 4, none⟩ (.int .i64 a1)).heap[b]? = some (.cells #[.int .i64 k, .int .i64 n, .string s, .int .i64 a0, .int .i64 a1, d5, d6, d7, d8, d9, d10] 40) := set_block h3 _
  have h5 : ((((((w.setCell ⟨b, 0, none⟩ (.int .i64 k)).setCell ⟨b, 1, none⟩ (.int .i64 n)).setCell ⟨b, 2, none⟩ (.string s)).setCell ⟨b, 3, none⟩ (.int .i64 a0)).setCell ⟨b, 4, none⟩ (.int .i64 a1)).setCell ⟨b, 5, none⟩ (.int .i64 a2)).heap[b]? = some (.cells #[.int .i64 k, .int .i64 n, .string s, .int .i64 a0, .int .i64 a1, .int .i64 a2, d6, d7, d8, d9, d10] 40) := set_block h4 _
  have h6 : (((((((w.setCell ⟨b, 0, none⟩ (.int .i64 k)).setCell ⟨b, 1, none⟩ (.int .i64 n)).setCell ⟨b, 2, none⟩ (.string s)).setCell ⟨b, 3, none⟩ (.int .i64 a0)).setCell ⟨b, 4, none⟩ (.int .i64 a1)).setCell ⟨b, 5, none⟩ (.int .i64 a2)).setCell ⟨b, 6, none⟩ (.int .i64 a3)).heap[b]? = some (.cells #[.int .i64 k, .int .i64 n, .string s, .int .i64 a0, .int .i64 a1, .int .i64 a2, .int .i64 a3, d7, d8, d9, d10] 40) := set_block h5 _
  have h7 : ((((((((w.setCell ⟨b, 0, none⟩ (.int .i64 k)).setCell ⟨b, 1, none⟩ (.int .i64 n)).setCell ⟨b, 2, none⟩ (.string s)).setCell ⟨b, 3, none⟩ (.int .i64 a0)).setCell ⟨b, 4, none⟩ (.int .i64 a1)).setCell ⟨b, 5, none⟩ (.int .i64 a2)).setCell ⟨b, 6, none⟩ (.int .i64 a3)).setCell ⟨b, 7, none⟩ (.int .i64 a4)).heap[b]? = some (.cells #[.int .i64 k, .int .i64 n, .string s, .int .i64 a0, .int .i64 a1, .int .i64 a2, .int .i64 a3, .int .i64 a4, d8, d9, d10] 40) := set_block h6 _
  have h8 : (((((((((w.setCell ⟨b, 0, none⟩ (.int .i64 k)).setCell ⟨b, 1, none⟩ (.int .i64 n)).setCell ⟨b, 2, none⟩ (.string s)).setCell ⟨b, 3, none⟩ (.int .i64 a0)).setCell ⟨b, 4, none⟩ (.int .i64 a1)).setCell ⟨b, 5, none⟩ (.int .i64 a2)).setCell ⟨b, 6, none⟩ (.int .i64 a3)).setCell ⟨b, 7, none⟩ (.int .i64 a4)).setCell ⟨b, 8, none⟩ (.int .i64 a5)).heap[b]? = some (.cells #[.int .i64 k, .int .i64 n, .string s, .int .i64 a0, .int .i64 a1, .int .i64 a2, .int .i64 a3, .int .i64 a4, .int .i64 a5, d9, d10] 40) := set_block h7 _
  have h9 : ((((((((((w.setCell ⟨b, 0, none⟩ (.int .i64 k)).setCell ⟨b, 1, none⟩ (.int .i64 n)).setCell ⟨b, 2, none⟩ (.string s)).setCell ⟨b, 3, none⟩ (.int .i64 a0)).setCell ⟨b, 4, none⟩ (.int .i64 a1)).setCell ⟨b, 5, none⟩ (.int .i64 a2)).setCell ⟨b, 6, none⟩ (.int .i64 a3)).setCell ⟨b, 7, none⟩ (.int .i64 a4)).setCell ⟨b, 8, none⟩ (.int .i64 a5)).setCell ⟨b, 9, none⟩ (.int .i64 a6)).heap[b]? = some (.cells #[.int .i64 k, .int .i64 n, .string s, .int .i64 a0, .int .i64 a1, .int .i64 a2, .int .i64 a3, .int .i64 a4, .int .i64 a5, .int .i64 a6, d10] 40) := set_block h8 _
  have h10 : (((((((((((w.setCell ⟨b, 0, none⟩ (.int .i64 k)).setCell ⟨b, 1, none⟩ (.int .i64 n)).setCell ⟨b, 2, none⟩ (.string s)).setCell ⟨b, 3, none⟩ (.int .i64 a0)).setCell ⟨b, 4, none⟩ (.int .i64 a1)).setCell ⟨b, 5, none⟩ (.int .i64 a2)).setCell ⟨b, 6, none⟩ (.int .i64 a3)).setCell ⟨b, 7, none⟩ (.int .i64 a4)).setCell ⟨b, 8, none⟩ (.int .i64 a5)).setCell ⟨b, 9, none⟩ (.int .i64 a6)).setCell ⟨b, 10, none⟩ (.int .i64 a7)).heap[b]? = some (.cells #[.int .i64 k, .int .i64 n, .string s, .int .i64 a0, .int .i64 a1, .int .i64 a2, .int .i64 a3, .int .i64 a4, .int .i64 a5, .int .i64 a6, .int .i64 a7] 40) := set_block h9 _
  exact h10
theorem OwnB.keep {B b : Nat} {w w' : World} {v : Value} {xs : List UInt8} (h : OwnB B w v xs) (hb : b < B) (hw : Rd b w w') : OwnB B w' v xs := by
  refine ⟨h.1, ?_⟩
  rcases h.2 with h0 | ⟨g, cap, cur, hv, hg, hblk, hc⟩
  · exact .inl h0
  · exact .inr ⟨g, cap, cur, hv, hg, hw.on hblk (by omega), hc⟩
end Go.Proofs.YtlbjbkhcnafhcaaGreat.SN
