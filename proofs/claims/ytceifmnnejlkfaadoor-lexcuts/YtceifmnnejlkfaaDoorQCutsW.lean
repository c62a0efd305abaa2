/-
  What LexCuts returns.
-/
import Derived.Test.YtceifmnnejlkfaaDoorQRLex
namespace Go.Proofs.YtceifmnnejlkfaaDoor
open Go.RowKit Go.Joins
theorem rlex_is {l : List UInt8} {ts : List Tk} {a : Nat} {er : Int} (h : lexO l = (ts, a, er)) (hl : (l.length : Int) ≤ 140737488355328) (w : World) : Calls Tryd.prog 11 #[.string (St l)] w (LexIs ts a er w) := by
  have := rlex_any l hl w
  unfold LexP at this
  rw [h] at this
  exact this
set_option maxRecDepth 100000 in
set_option maxHeartbeats 1000000 in
theorem cuts_any (l : List UInt8) (hl : (l.length : Int) ≤ 140737488355328) (w : World) (hG : Gd w) : Calls Tryd.prog 3 #[.string (St l)] w fun e w' => e = .returned (.bool true) ∧ Below w.heap.size w w' := by
  have hsz := St_size l
  obtain ⟨ts, a, er, hx⟩ : ∃ ts a er, lexO l = (ts, a, er) := ⟨_, _, _, rfl⟩
  have HX := hid hx
  have HL := hid hl
  clear hx hl
  go_enter Tryd.func3, Tryd.ntmps3
  go_wp2_with (first
    | (go_at_call 9; refine (shown_any _ hG).mono ?_; rintro e w1 ⟨rfl, hb1⟩; have B1 := hid hb1; have G1 := hid (hG.next hb1); clear hb1)
    | (go_at_call 10; refine (lex_is HX.out HL.out _ G1.out).mono ?_; unfold LexIs; rintro e w2 ⟨v2, rfl, ht2, hb2⟩; have T2 := hid ht2; have B2 := hid (below_on B1.out hb2); clear ht2 hb2)
    | (go_at_call 11; refine (rlex_is HX.out HL.out _).mono ?_; unfold LexIs; rintro e w3 ⟨v3, rfl, ht3, hb3⟩; have T3 := hid ht3; have U2 := hid (T2.out.on hb3); have B3 := hid (below_on B2.out hb3); clear ht3 hb3)
    | (go_at_call 12; refine (same_any true ts ts (SameT.refl _ _) _ _ _ U2.out.rv T3.out.rv).mono ?_; rintro e w4 ⟨rfl, hb4⟩; have B4 := hid (below_on B3.out hb4); clear hb4))
  go_ret
  exact ⟨rfl, B4.out⟩
end Go.Proofs.YtceifmnnejlkfaaDoor
