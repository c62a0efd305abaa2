/-
  What LexQuotes returns.
-/
import Derived.Test.YtceifmnnejlkfaaDoorQQuote
namespace Go.Proofs.YtceifmnnejlkfaaDoor
open Go.RowKit Go.Joins
set_option maxRecDepth 100000 in
set_option maxHeartbeats 1000000 in
theorem quotes_any (l : List UInt8) (hl : (l.length : Int) ≤ 1048576) (w : World) (hG : Gd w) : Calls Tryd.prog 4 #[.string (St l)] w fun e w' => e = .returned (.bool true) ∧ Below w.heap.size w w' := by
  have hsz := St_size l
  have HQ := hid (fun w => quote_any l hl w)
  have HRQ := hid (fun w => rquote_any l hl w)
  have HQL := hid (show ((quoted l).length : Int) ≤ 140737488355328 by have h1 := quoted_len l; have h2 := esc_le l; omega)
  have hee := St_eq (quoted l) (quoted l)
  have hee2 : (quoted l == quoted l) = true := by simp
  rw [hee2] at hee
  by_cases h64 : l.length ≤ 64
  · have h64I : ¬ 64 < (l.length : Int) := by omega
    have HX := hid (lex_quoted h64)
    clear h64 hee2
    generalize quoted l = q at *
    go_enter Tryd.func4, Tryd.ntmps4
    go_wp2_with (first
      | (go_at_call 9; refine (shown_any _ hG).mono ?_; rintro e w1 ⟨rfl, hb1⟩; have B1 := hid hb1; have G1 := hid (hG.next hb1); clear hb1)
      | (go_at_call 13; refine (HQ.out _).mono ?_; rintro e w2 ⟨rfl, hb2⟩; have B2 := hid (below_on B1.out hb2); have G2 := hid (G1.out.next hb2); clear hb2)
      | (go_at_call 10; refine (lex_is HX.out HQL.out _ G2.out).mono ?_; unfold LexIs; rintro e w3 ⟨v3, rfl, ht3, hb3⟩; have T3 := hid ht3; have B3 := hid (below_on B2.out hb3); clear ht3 hb3; obtain ⟨p9, c9, hv9⟩ : ∃ p c, v3 = Value.slice p 1 c := (by obtain ⟨g, cap, h, -⟩ := T3.out.formNe (by simp); exact ⟨_, _, h⟩); subst hv9)
      | (go_at_call 14; refine (HRQ.out _).mono ?_; rintro e w4 ⟨rfl, hb4⟩; have T4 := hid (T3.out.on hb4); have B4 := hid (below_on B3.out hb4); clear hb4
         obtain ⟨g, cap, hv, R⟩ := T4.out.formNe (by simp)
         cases hv
         obtain ⟨r0, r1, r2, r3⟩ := R 0 (by simp)
         simp at r0 r1
         clear R))
    go_ret
    exact ⟨rfl, B4.out⟩
  · have h64I : 64 < (l.length : Int) := by omega
    obtain ⟨ts, a, er, hx, her⟩ := lex_quoted_no h64
    have HX := hid hx
    clear hx h64 hee2
    generalize quoted l = q at *
    go_enter Tryd.func4, Tryd.ntmps4
    go_wp2_with (first
      | (go_at_call 9; refine (shown_any _ hG).mono ?_; rintro e w1 ⟨rfl, hb1⟩; have B1 := hid hb1; have G1 := hid (hG.next hb1); clear hb1)
      | (go_at_call 13; refine (HQ.out _).mono ?_; rintro e w2 ⟨rfl, hb2⟩; have B2 := hid (below_on B1.out hb2); have G2 := hid (G1.out.next hb2); clear hb2)
      | (go_at_call 10; refine (lex_is HX.out HQL.out _ G2.out).mono ?_; unfold LexIs; rintro e w3 ⟨v3, rfl, ht3, hb3⟩; have B3 := hid (below_on B2.out hb3); clear ht3 hb3)
      | (go_at_call 14; refine (HRQ.out _).mono ?_; rintro e w4 ⟨rfl, hb4⟩; have B4 := hid (below_on B3.out hb4); clear hb4))
    go_ret
    exact ⟨congrArg (fun b => Ending.returned (Value.bool b)) (bne_iff_ne.2 her), B4.out⟩
end Go.Proofs.YtceifmnnejlkfaaDoor
