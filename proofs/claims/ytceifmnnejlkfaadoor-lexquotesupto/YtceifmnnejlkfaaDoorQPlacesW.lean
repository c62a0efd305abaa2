/-
  What LexPlaces returns.
-/
import Derived.Test.YtceifmnnejlkfaaDoorQPlacesM
import Derived.Deep.DeepCutAuto
namespace Go.Proofs.YtceifmnnejlkfaaDoor
open Go.RowKit Go.Joins
theorem Rw.drew {w : World} {g : Nat} {ts : List Tk} (h : Rw w g ts) (n : Nat) : Rw (w.drewN n) g ts := h
theorem slLH (l S : List UInt8) (A : Nat) (h1 : A + S.length ≤ l.length) (h2 : (l.drop A).take S.length = S) (w : World) : (Instr.slice 9 (.string (St l)) (some (.int .i64 (A : Int))) (some (.int .i64 ((A : Int) + (S.length : Int)))) none).run Tryd.prog w = .ok (.string (St S)) w := by
  have hs := St_size l
  rw [run_slice_string w 9 (St l) .i64 .i64 (A : Int) ((A : Int) + (S.length : Int)) Tryd.underlying9 (by omega) (by omega) (by omega)]
  congr 2
  rw [show ((A : Int)).toNat = A by omega, show ((A : Int) + (S.length : Int)).toNat = A + S.length by omega, St_extract, List.drop_take, show A + S.length - A = S.length by omega, h2]
theorem Tr.len_le {B : Nat} {w : World} {v : Value} {ts : List Tk} (h : Tr B w v ts) : ts.length ≤ 9223372036854775807 := by
  obtain ⟨-, h2⟩ := h
  rcases h2 with ⟨-, h0⟩ | ⟨g, cap, cur, -, -, -, h1, h2, -⟩
  · omega
  · unfold maxLen at h2; omega
set_option maxRecDepth 100000 in
set_option maxHeartbeats 1000000 in
theorem places_any (l : List UInt8) (hl : (l.length : Int) ≤ 140737488355328) (w : World) (hG : Gd w) : Calls Tryd.prog 7 #[.string (St l)] w fun e w' => e = .returned (.bool true) ∧ Below w.heap.size w w' := by
  have hsz := St_size l
  have HL := hid hl
  rcases lexO_forms l with ⟨a, er, hx, her, ha⟩ | ⟨ts, hx, hP⟩
  · have HX := hid hx
    have haI : (a : Int) ≤ l.length := by omega
    clear hx ha
    go_enter Tryd.func7, Tryd.ntmps7
    go_wp2_with (first
      | (go_at_call 9; refine (shown_any _ hG).mono ?_; rintro e w1 ⟨rfl, hb1⟩; have B1 := hid hb1; have G1 := hid (hG.next hb1); clear hb1)
      | (go_at_call 10; refine (lex_is HX.out HL.out _ G1.out).mono ?_; unfold LexIs; rintro e w3 ⟨v3, rfl, ht3, hb3⟩; have B3 := hid (below_on B1.out hb3)
         obtain ⟨p, cap, rfl⟩ : ∃ p cap, v3 = Value.slice p 0 cap := (by rcases ownsRow_forms ht3 with ⟨rfl, h0⟩ | ⟨g, cap, rfl⟩; exact ⟨_, _, rfl⟩; exact ⟨_, _, rfl⟩)
         clear ht3 hb3))
    go_ret
    exact ⟨rfl, B3.out⟩
  · have HX := hid hx
    have HP := hid hP
    clear hx hP
    go_enter Tryd.func7, Tryd.ntmps7
    go_wp2_with (first
      | (go_at_call 9; refine (shown_any _ hG).mono ?_; rintro e w1 ⟨rfl, hb1⟩; have B1 := hid hb1; have G1 := hid (hG.next hb1); clear hb1)
      | (go_at_call 10; refine (lex_is HX.out HL.out _ G1.out).mono ?_; unfold LexIs; rintro e w3 ⟨v3, rfl, ht3, hb3⟩; have B3 := hid (below_on B1.out hb3)
         obtain ⟨p, g, cap, rfl, hp9, hR⟩ : ∃ (p : Option Addr) (g cap : Nat), v3 = Value.slice p ts.length cap ∧ (0 < ts.length → p = some ⟨g, 0, none⟩) ∧ Rw w3 g ts := (by
           obtain ⟨g, cap, h1, h2⟩ := ht3.form
           rcases h1 with ⟨rfl, rfl⟩ | rfl
           · exact ⟨none, g, 0, rfl, fun h => by simp at h, h2⟩
           · exact ⟨_, g, cap, rfl, fun _ => rfl, h2⟩)
         have HLen := hid ht3.len_le
         have HR := hid hR
         have HP9 := hid hp9
         clear ht3 hb3 hR hp9))
    go_loopw [7] (fun i wr => ∃ k : Nat, (k : Int) ≤ ts.length ∧ i = .int .i64 k ∧ Hid (Rw wr g ts) ∧ Hid (Below w.heap.size w wr)) (fun i _ => ts.length - (intOf i).toNat)
    case atStart => exact ⟨0, by omega, rfl, HR.out, B3.out⟩
    case round =>
      obtain ⟨k, hk, rfl, HRr, HBr⟩ := hrel
      clear HR B3 B1 G1
      by_cases hlt : k < ts.length
      · obtain rfl := HP9.out (by omega)
        have hkI : (k : Int) < ts.length := by omega
        obtain ⟨P1, P2, P3, P4, P5⟩ := HP.out k hlt
        obtain ⟨c0, c1, c2, c3⟩ := HRr.out k hlt
        have HP5 := hid P5
        clear P5
        have hn9 : (ts.length : Int) ≤ 9223372036854775807 := by have := HLen.out; omega
        generalize ts[k].at_ = A at *
        generalize ts[k].kind = KD at *
        generalize ts[k].s = S at *
        have hA1 : (A : Int) < l.length := by omega
        have hA0 : ¬ (A : Int) < 0 := by omega
        have hAl : ¬ (l.length : Int) ≤ A := by omega
        have hK1 : ¬ (KD : Int) < 1 := by omega
        have hK2 : ¬ (4 : Int) < KD := by omega
        have HP4 := hid P4
        clear P4 P1 P2 P3 c2
        go_upto_region 8 with fail
        go_cut [89] from 38 to 89 (fun cv wx => cv = .bool false ∧ ∃ q, wx = wr.drewN q)
        case first =>
          by_cases hk0 : 0 < k
          · obtain ⟨j, hj⟩ : ∃ j, j + 1 = k := ⟨k - 1, by omega⟩
            have hAj := HP5.out j hj
            obtain ⟨-, -, -, e3⟩ := HRr.out j (by omega)
            generalize ts[j].at_ = A' at *
            have hAI : ¬ (A : Int) ≤ A' := by omega
            have hkj : (k : Int) - 1 = (j : Int) := by omega
            have hk1I : 0 < (k : Int) := by omega
            have hjl : (j : Int) < ts.length := by omega
            have hjl' : j < ts.length := by omega
            clear hAj HP5 hj
            go_quiet (fail)
            go_wp2
            go_meet
            exact ⟨rfl, _, rfl⟩
          · have hk1I : ¬ 0 < (k : Int) := by omega
            clear HP5
            go_quiet (fail)
            go_wp2
            go_meet
            exact ⟨rfl, _, rfl⟩
        case rest =>
          obtain ⟨hu89, q, hwc⟩ := hcut
          subst hu89
          subst hwc
          clear HP5
          replace HRr := hid (show Rw (wr.drewN q) g ts from HRr.out)
          replace HBr := hid (below_drewN HBr.out q)
          replace c1 : (wr.drewN q).cell? { block := g, off := k * 4 + 1 } = some (Value.string (St S)) := c1
          replace c3 : (wr.drewN q).cell? { block := g, off := k * 4 + 3 } = some (Value.int IntKind.i64 A) := c3
          replace c0 : (wr.drewN q).cell? { block := g, off := k * 4 } = some (Value.int IntKind.i64 KD) := c0
          generalize wr.drewN q = w5 at *
          by_cases hk1 : KD = 1
          · have HKD := hid hk1
            have hKI : (KD : Int) = 1 := by omega
            obtain ⟨z1, z2⟩ := HP4.out (.inl (by omega))
            have hsl := slLH l S A z1 z2
            have hsS := St_size S
            have hto : ¬ (l.length : Int) < (A : Int) + (S.length : Int) := by omega
            have htl : (A : Int) + (S.length : Int) ≤ l.length := by omega
            have HZ := hid z2
            clear z1 z2
            go_upto_region 11 with fail
            go_quiet (fail)
            replace HRr := hid (show Rw (w5.drewN nq) g ts from HRr.out)
            replace HBr := hid (below_drewN HBr.out nq)
            replace c1 : (w5.drewN nq).cell? { block := g, off := k * 4 + 1 } = some (Value.string (St S)) := c1
            replace c3 : (w5.drewN nq).cell? { block := g, off := k * 4 + 3 } = some (Value.int IntKind.i64 A) := c3
            replace c0 : (w5.drewN nq).cell? { block := g, off := k * 4 } = some (Value.int IntKind.i64 KD) := c0
            generalize w5.drewN nq = w6 at *
            go_upto_region 12 with fail
            go_quiet (fail)
            go_wp2_with fail
            go_roundw
            case rel => exact ⟨k + 1, by omega, by go_num, HRr.out, below_drewN HBr.out _⟩
            case measure => simp [intOf]; omega
          · by_cases hk4 : KD = 4
            · have HKD := hid hk4
              have hKI : (KD : Int) = 4 := by omega
              obtain ⟨z1, z2⟩ := HP4.out (.inr (by omega))
              have hsl := slLH l S A z1 z2
              have hsS := St_size S
              have hto : ¬ (l.length : Int) < (A : Int) + (S.length : Int) := by omega
              have htl : (A : Int) + (S.length : Int) ≤ l.length := by omega
              have HZ := hid z2
              clear z1 z2
              go_upto_region 11 with fail
              go_quiet (fail)
              replace HRr := hid (show Rw (w5.drewN nq) g ts from HRr.out)
              replace HBr := hid (below_drewN HBr.out nq)
              replace c1 : (w5.drewN nq).cell? { block := g, off := k * 4 + 1 } = some (Value.string (St S)) := c1
              replace c3 : (w5.drewN nq).cell? { block := g, off := k * 4 + 3 } = some (Value.int IntKind.i64 A) := c3
              replace c0 : (w5.drewN nq).cell? { block := g, off := k * 4 } = some (Value.int IntKind.i64 KD) := c0
              generalize w5.drewN nq = w6 at *
              go_upto_region 12 with fail
              go_quiet (fail)
              go_wp2_with fail
              go_roundw
              case rel => exact ⟨k + 1, by omega, by go_num, HRr.out, below_drewN HBr.out _⟩
              case measure => simp [intOf]; omega
            · have hKI1 : ¬ (KD : Int) = 1 := by omega
              have hKI4 : ¬ (KD : Int) = 4 := by omega
              have hB1 : ((KD : Int) == 1) = false := beq_eq_false_iff_ne.2 hKI1
              have hB4 : ((KD : Int) == 4) = false := beq_eq_false_iff_ne.2 hKI4
              go_wp2_with fail
              go_roundw
              case rel => exact ⟨k + 1, by omega, by go_num, HRr.out, HBr.out⟩
              case measure => simp [intOf]; omega
      · go_wp2_with fail
        go_ret
        exact ⟨rfl, HBr.out⟩
end Go.Proofs.YtceifmnnejlkfaaDoor
