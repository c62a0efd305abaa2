/-
  What LexNumbers returns.
-/
import Derived.Test.YtceifmnnejlkfaaDoorQNumsM
import Derived.Test.YtceifmnnejlkfaaDoorQShown
import Derived.Test.YtceifmnnejlkfaaDoorQSignsW
namespace Go.Proofs.YtceifmnnejlkfaaDoor
open Go.RowKit Go.Joins Go.Sort
set_option maxRecDepth 100000 in
set_option maxHeartbeats 1000000 in
theorem nums_any (n : Int) (hn : In64 n) (w : World) (hG : Gd w) : Calls Tryd.prog 6 #[.int .i64 n] w fun e w' => e = .returned (.bool true) ∧ Below w.heap.size w w' := by
  have HD := hid (fun w => digits_any (n := n) (w := w) hn)
  have H1 := hid (num_lex n hn)
  have H2 := hid (num_lex2 n hn)
  have hl := Lib.itoa_length_le n hn.1 hn.2
  have HD2 : Hid (∀ w, Calls Tryd.prog 15 #[.int .i64 n] w fun e w' => e = .returned (.string (St (Lib.itoa n))) ∧ Below w.heap.size w w') := HD.out
  clear HD
  generalize Lib.itoa n = l at *
  have hsl := St_size l
  have hlI : (l.length : Int) ≤ 21 := by omega
  have k1 : (⟨#[60, 61]⟩ : ByteArray) ++ St l = St ([60, 61] ++ l) := St_cat [60, 61] l
  have k2 : St ([60, 61] ++ l) ++ (⟨#[41]⟩ : ByteArray) = St ([60, 61] ++ l ++ [41]) := St_cat ([60, 61] ++ l) [41]
  have hs2 := St_size ([60, 61] ++ l)
  have e2 : ([60, 61] ++ l).length = l.length + 2 := by simp
  rw [e2] at hs2
  have HQ1 : Hid ((l.length : Int) ≤ 140737488355328) := by show _ ≤ _; omega
  have HQ2 : Hid ((([60, 61] ++ l ++ [41]).length : Int) ≤ 140737488355328) := by show _ ≤ _; simp; omega
  generalize [60, 61] ++ l ++ [41] = m at *
  generalize [60, 61] ++ l = p at *
  clear e2 hl
  have M1 : Hid True := hid trivial
  go_enter Tryd.func6, Tryd.ntmps6
  go_wp2_with (first
    | (go_at_call 9; refine (shown_any _ hG).mono ?_; rintro e w1 ⟨rfl, hb1⟩; have B1 := hid hb1; have G1 := hid (hG.next hb1); clear hb1)
    | (go_at_call 15; refine (HD2.out _).mono ?_; rintro e w2 ⟨rfl, hb2⟩; have B2 := hid (below_on B1.out hb2); have G2 := hid (G1.out.next hb2); clear hb2)
    | (go_at_call 10; clear M1; refine (lex_is H1.out HQ1.out _ G2.out).mono ?_; unfold LexIs; rintro e w3 ⟨v3, rfl, ht3, hb3⟩; have T3 := hid ht3; have B3 := hid (below_on B2.out hb3); have G3 := hid (G2.out.next hb3); clear ht3 hb3)
    | (go_at_call 10; refine (lex_is H2.out HQ2.out _ G3.out).mono ?_; unfold LexIs; rintro e w4 ⟨v4, rfl, ht4, hb4⟩; have U3 := hid (T3.out.on hb4); have T4 := hid ht4; have B4 := hid (below_on B3.out hb4); clear ht4 hb4
       obtain ⟨g1, cap1, rfl, R1⟩ := U3.out.formNe (by simp)
       obtain ⟨g2, cap2, rfl, R2⟩ := T4.out.formNe (by simp)
       have r10 := R1 0 (by simp)
       have r21 := R2 1 (by simp)
       have r22 := R2 2 (by simp)
       simp [St] at r10 r21 r22
       obtain ⟨q0, q1, q2, q3⟩ := r10
       obtain ⟨p0, p1, p2, p3⟩ := r21
       obtain ⟨o0, o1, o2, o3⟩ := r22
       clear R1 R2))
  go_ret
  exact ⟨rfl, B4.out⟩
end Go.Proofs.YtceifmnnejlkfaaDoor
