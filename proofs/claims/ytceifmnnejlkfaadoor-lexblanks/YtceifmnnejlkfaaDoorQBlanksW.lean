/-
  What LexBlanks returns.
-/
import Derived.Test.YtceifmnnejlkfaaDoorQBlanksK
namespace Go.Proofs.YtceifmnnejlkfaaDoor
open Go.RowKit Go.Joins
theorem lexO_count (l : List UInt8) : (lexO l).1.length ≤ 2048 := by
  unfold lexO
  split
  · simp
  · rename_i h
    split
    · simp
    · rename_i ts e
      have hp := lex_pl l l.length l 0 ts (Nat.le_refl _) e rfl
      have : ∀ (ts : List Tk) (a : Nat), Pl l a ts → a + ts.length ≤ l.length ∨ ts = [] := by
        intro ts
        induction ts with
        | nil => intro a _; exact .inr rfl
        | cons t r ih =>
          intro a h
          left
          rcases ih _ h.2.2.2.2.2 with h3 | h3
          · have := h.1; have := h.2.1; simp; omega
          · subst h3; have := h.1; have := h.2.1; simp; omega
      rcases this ts 0 hp with h3 | h3
      · show ts.length ≤ 2048; omega
      · subst h3; simp
theorem Tr.empty (w : World) : Tr w.heap.size (w.alloc (.cells #[] 31)) (.slice (some ⟨w.heap.size, 0, none⟩) 0 0) [] := World.ownsRow_made w #[] 0 (Nat.le_refl _) (by unfold maxLen; omega) rfl
set_option maxRecDepth 100000 in
set_option maxHeartbeats 1000000 in
theorem blanks_any (s t : List UInt8) (hs : (s.length : Int) ≤ 140737488355328) (ht : (t.length : Int) ≤ 140737488355328) (n : Int) (hn : -9223372036854775808 ≤ n ∧ n ≤ 9223372036854775807) (w : World) (hG : Gd w) : Calls Tryd.prog 5 #[.string (St s), .string (St t), .int .i64 n] w fun e w' => e = .returned (.bool true) ∧ Below w.heap.size w w' := by
  obtain ⟨hn1, hn2⟩ := hn
  have hzs := St_size s
  have hzt := St_size t
  by_cases h1 : 900 < s.length
  · have h1I : 900 < (s.length : Int) := by omega
    go_enter Tryd.func5, Tryd.ntmps5
    go_wp2_with (go_at_call 9; refine (shown_any _ hG).mono ?_; rintro e w1 ⟨rfl, hb1⟩; have B1 := hid hb1; have G1 := hid (hG.next hb1); clear hb1)
    go_ret
    exact ⟨rfl, B1.out⟩
  · have h1I : ¬ 900 < (s.length : Int) := by omega
    by_cases h2 : 900 < t.length
    · have h2I : 900 < (t.length : Int) := by omega
      go_enter Tryd.func5, Tryd.ntmps5
      go_wp2_with (go_at_call 9; refine (shown_any _ hG).mono ?_; rintro e w1 ⟨rfl, hb1⟩; have B1 := hid hb1; have G1 := hid (hG.next hb1); clear hb1)
      go_ret
      exact ⟨rfl, B1.out⟩
    · have h2I : ¬ 900 < (t.length : Int) := by omega
      go_enter Tryd.func5, Tryd.ntmps5
      go_upto_if 31 with (go_at_call 9; refine (shown_any _ hG).mono ?_; rintro e w1 ⟨rfl, hb1⟩; have B1 := hid hb1; have G1 := hid (hG.next hb1); clear hb1)
      go_cut [2] from 30 to 34 (fun v wx => ∃ N : Int, v = .int .i64 N ∧ 0 ≤ N ∧ N ≤ 9223372036854775807 ∧ wx = w1)
      case first =>
        by_cases h3 : n < 0
        · go_wp2
          go_meet
          exact ⟨_, rfl, by omega, by omega, rfl⟩
        · go_wp2
          go_meet
          exact ⟨n, rfl, by omega, by omega, rfl⟩
      case rest =>
        obtain ⟨N, rfl, hN1, hN2, hwc⟩ := hcut
        subst hwc
        obtain ⟨q, hq⟩ : ∃ q : Nat, N % 40 = (q : Int) := ⟨(N % 40).toNat, by omega⟩
        have hq40 : (q : Int) < 40 := by omega
        go_wp2_with fail
        go_loopw [8, 9] (fun v i wr => ∃ k : Nat, (k : Int) ≤ q + 1 ∧ i = .int .i64 k ∧ v = .string (St (blk k)) ∧ wc = wr) (fun _ i _ => q + 1 - (intOf i).toNat)
        case atStart => exact ⟨0, by omega, rfl, rfl, rfl⟩
        case round =>
          obtain ⟨k, hk, rfl, rfl, hw⟩ := hrel
          subst hw
          by_cases hlt : k ≤ q
          · have hkI : (k : Int) ≤ q := by omega
            obtain ⟨j, hj⟩ : ∃ j : Nat, k % 4 = j := ⟨_, rfl⟩
            have hjI : (k : Int) % 4 = (j : Int) := by omega
            have hj4 : (j : Int) < 4 := by omega
            have hps := pat_sl j (by omega)
            have hlb := St_size (blk k)
            rw [blk_len] at hlb
            have hcat := St_cat (blk k) [pat.getD j 0]
            have HCAT := hid (show blk k ++ [pat.getD j 0] = blk (k + 1) by rw [← hj]; rfl)
            rw [HCAT.out] at hcat
            have hs1 := St_size [pat.getD j 0]
            have hs1' : [pat.getD j 0].length = 1 := rfl
            rw [hs1'] at hs1
            clear hj
            generalize [pat.getD j 0] = pj at *
            generalize blk k = bk at *
            generalize hb1 : blk (k + 1) = bk1 at *
            have HB1 := hid hb1
            clear hb1
            go_wp2_with fail
            go_roundw
            case rel => exact ⟨k + 1, by omega, by go_num, by rw [HB1.out], by first | rfl | trivial⟩
            case measure => simp [intOf]; omega
          · have hkq : k = q + 1 := by omega
            subst hkq
            have hll := blk_len (q + 1)
            have HBL := hid (blk_bl (q + 1))
            generalize blk (q + 1) = bl at *
            have hlI : (bl.length : Int) ≤ 40 := by omega
            have hl0 : 0 < bl.length := by omega
            have hlb := St_size bl
            have k1 := St_cat bl s
            have z1 := St_size (bl ++ s)
            have k2 := St_cat (bl ++ s) bl
            have z2 := St_size (bl ++ s ++ bl)
            have k3 := St_cat (bl ++ s ++ bl) t
            have z3 := St_size (bl ++ s ++ bl ++ t)
            have k4 := St_cat (bl ++ s ++ bl ++ t) bl
            have y1 : (bl ++ s).length = bl.length + s.length := by simp
            have y2 : (bl ++ s ++ bl).length = bl.length + s.length + bl.length := by simp; omega
            have y3 : (bl ++ s ++ bl ++ t).length = bl.length + s.length + bl.length + t.length := by simp; omega
            have y4 : (bl ++ s ++ bl ++ t ++ bl).length = bl.length + s.length + bl.length + t.length + bl.length := by simp; omega
            rw [y1] at z1
            rw [y2] at z2
            rw [y3] at z3
            have HCL := hid (show ((bl ++ s ++ bl ++ t ++ bl).length : Int) ≤ 140737488355328 by rw [y4]; omega)
            have HSL := hid hs
            have HTL := hid ht
            clear y1 y2 y3 y4 hll
            obtain ⟨A, a1, e1, hA⟩ : ∃ A a1 e1, lexO s = (A, a1, e1) := ⟨_, _, _, rfl⟩
            obtain ⟨B, a2, e2, hB⟩ : ∃ B a2 e2, lexO t = (B, a2, e2) := ⟨_, _, _, rfl⟩
            have HCA := hid (show A.length ≤ 2048 by have := lexO_count s; rw [hA] at this; exact this)
            have HCB := hid (show B.length ≤ 2048 by have := lexO_count t; rw [hB] at this; exact this)
            have HA := hid hA
            have HB := hid hB
            have M1 : Hid True := hid trivial
            have M2 : Hid True := hid trivial
            by_cases he1 : e1 = 0
            · by_cases he2 : e2 = 0
              · subst he1
                subst he2
                obtain ⟨C, hC, hSame⟩ := blanks_lex s t bl A B a1 a2 (by omega) (by omega) HBL.out hl0 (by omega) hA hB
                have HC := hid hC
                have HSame := hid hSame
                clear hA hB hC hSame
                generalize bl ++ s ++ bl ++ t ++ bl = p4 at *
                generalize bl ++ s ++ bl ++ t = p3 at *
                generalize bl ++ s ++ bl = p2 at *
                generalize bl ++ s = p1 at *
                go_upto_region 16 with (first
              | (go_at_call 10; clear M1; refine (lex_is HA.out HSL.out _ G1.out).mono ?_; unfold LexIs; rintro e w2 ⟨v2, rfl, ht2, hb2⟩; have T2 := hid ht2; have B2 := hid (below_on B1.out hb2); have G2 := hid (G1.out.next hb2); clear ht2 hb2)
              | (go_at_call 10; clear M2; refine (lex_is HB.out HTL.out _ G2.out).mono ?_; unfold LexIs; rintro e w3 ⟨v3, rfl, ht3, hb3⟩; have T3 := hid ht3; have S2 := hid (T2.out.on hb3); have B3 := hid (below_on B2.out hb3); have G3 := hid (G2.out.next hb3); clear ht3 hb3)
              | (go_at_call 10; refine (lex_is HC.out HCL.out _ G3.out).mono ?_; unfold LexIs; rintro e w4 ⟨v4, rfl, ht4, hb4⟩; have T4 := hid ht4; have S3 := hid (T3.out.on hb4); have R2 := hid (S2.out.on hb4); have B4 := hid (below_on B3.out hb4); clear ht4 hb4))
                have M3 : Hid True := hid trivial
                have HE := hid (Tr.empty w4)
                have HB0 := hid ((Below.refl w4.heap.size w4).alloc (Nat.le_refl _) (.cells #[] 31))
                go_wp2_with (first
                  | (at_builtin; clear M3; refine appR rfl _ _ rfl rfl HE.out rfl (R2.out.on HB0.out) (by have := HCA.out; simp; omega) (by simp) ?_; intro v5 w5 ho5 hb5; have P5 := hid ho5; have D5 := hid (HB0.out.trans hb5); clear ho5 hb5)
                  | (at_builtin; refine appR rfl _ _ rfl rfl P5.out rfl (S3.out.on D5.out) (by have := HCA.out; have := HCB.out; simp; omega) D5.out.size ?_; intro v6 w6 ho6 hb6; have P6 := hid ho6; have D6 := hid (D5.out.trans hb6); clear ho6 hb6)
                  | (go_at_call 12; refine (same_any false C (A ++ B) HSame.out _ _ _ (T4.out.on D6.out).rv P6.out.rv).mono ?_; rintro e w7 ⟨rfl, hb7⟩; have B7 := hid (below_on (below_on B4.out D6.out) hb7); clear hb7))
                go_ret
                exact ⟨rfl, B7.out⟩
              · obtain ⟨C, a3, e3, hC⟩ : ∃ C a3 e3, lexO (bl ++ s ++ bl ++ t ++ bl) = (C, a3, e3) := ⟨_, _, _, rfl⟩
                have HC := hid hC
                subst he1
                clear hA hB hC
                generalize bl ++ s ++ bl ++ t ++ bl = p4 at *
                generalize bl ++ s ++ bl ++ t = p3 at *
                generalize bl ++ s ++ bl = p2 at *
                generalize bl ++ s = p1 at *
                go_wp2_with (first
              | (go_at_call 10; clear M1; refine (lex_is HA.out HSL.out _ G1.out).mono ?_; unfold LexIs; rintro e w2 ⟨v2, rfl, ht2, hb2⟩; have T2 := hid ht2; have B2 := hid (below_on B1.out hb2); have G2 := hid (G1.out.next hb2); clear ht2 hb2)
              | (go_at_call 10; clear M2; refine (lex_is HB.out HTL.out _ G2.out).mono ?_; unfold LexIs; rintro e w3 ⟨v3, rfl, ht3, hb3⟩; have T3 := hid ht3; have S2 := hid (T2.out.on hb3); have B3 := hid (below_on B2.out hb3); have G3 := hid (G2.out.next hb3); clear ht3 hb3)
              | (go_at_call 10; refine (lex_is HC.out HCL.out _ G3.out).mono ?_; unfold LexIs; rintro e w4 ⟨v4, rfl, ht4, hb4⟩; have T4 := hid ht4; have S3 := hid (T3.out.on hb4); have R2 := hid (S2.out.on hb4); have B4 := hid (below_on B3.out hb4); clear ht4 hb4))
                go_ret
                exact ⟨rfl, B4.out⟩
            · obtain ⟨C, a3, e3, hC⟩ : ∃ C a3 e3, lexO (bl ++ s ++ bl ++ t ++ bl) = (C, a3, e3) := ⟨_, _, _, rfl⟩
              have HC := hid hC
              clear hA hB hC
              generalize bl ++ s ++ bl ++ t ++ bl = p4 at *
              generalize bl ++ s ++ bl ++ t = p3 at *
              generalize bl ++ s ++ bl = p2 at *
              generalize bl ++ s = p1 at *
              go_wp2_with (first
              | (go_at_call 10; clear M1; refine (lex_is HA.out HSL.out _ G1.out).mono ?_; unfold LexIs; rintro e w2 ⟨v2, rfl, ht2, hb2⟩; have T2 := hid ht2; have B2 := hid (below_on B1.out hb2); have G2 := hid (G1.out.next hb2); clear ht2 hb2)
              | (go_at_call 10; clear M2; refine (lex_is HB.out HTL.out _ G2.out).mono ?_; unfold LexIs; rintro e w3 ⟨v3, rfl, ht3, hb3⟩; have T3 := hid ht3; have S2 := hid (T2.out.on hb3); have B3 := hid (below_on B2.out hb3); have G3 := hid (G2.out.next hb3); clear ht3 hb3)
              | (go_at_call 10; refine (lex_is HC.out HCL.out _ G3.out).mono ?_; unfold LexIs; rintro e w4 ⟨v4, rfl, ht4, hb4⟩; have T4 := hid ht4; have S3 := hid (T3.out.on hb4); have R2 := hid (S2.out.on hb4); have B4 := hid (below_on B3.out hb4); clear ht4 hb4))
              go_ret
              exact ⟨rfl, B4.out⟩
end Go.Proofs.YtceifmnnejlkfaaDoor
