/-
  What the reference's Lex returns.
-/
import Derived.Test.YtomnjckbgmbgmaaGreatDoorQROneB
namespace Go.Proofs.YtomnjckbgmbgmaaGreatDoor
open Go.RowKit Go.Joins
theorem join_bl {l : List UInt8} {ts : List Tk} {k : Nat} (h : lexA 0 l = joinT ts (lexA k (l.drop k))) (hk : k < l.length) (hb : isBl l[k] = true) : lexA 0 l = joinT ts (lexA (k + 1) (l.drop (k + 1))) := by
  rw [drop_at hk] at h
  rw [h, lexA_bl k _ hb]
/-- The loop's state: how far, which tokens. -/
def RLq (w wr : World) (l : List UInt8) (v : Value) (k : Nat) (ts : List Tk) : Prop :=
  lexA 0 l = joinT ts (lexA k (l.drop k)) ∧ ts.length ≤ k ∧ Tr w.heap.size wr v ts ∧ Below w.heap.size w wr
set_option maxRecDepth 100000 in
set_option maxHeartbeats 1000000 in
theorem rlex_any (l : List UInt8) (hl : (l.length : Int) ≤ 140737488355328) (w : World) : Calls Tryz.prog 18 #[.string (St l)] w (LexP l w) := by
  have hsz := St_size l
  by_cases h2048 : 2048 < l.length
  · have hI : 2048 < (l.length : Int) := by omega
    have HO := hid (lexO_long h2048)
    clear h2048
    go_enter Tryz.func18, Tryz.ntmps18
    go_wp2_with fail
    refine bodyPost_ret (v := .tuple #[.slice none 0 0, .int .i64 0, .int .i64 2]) (by simp [results, Tryz.results18, go_sem]) rfl ?_
    unfold LexP; rw [HO.out]
    exact ⟨_, rfl, Tr.nil _ _, Below.refl _ _⟩
  · have hI : ¬ 2048 < (l.length : Int) := by omega
    have HLong := hid h2048
    have hlI : (l.length : Int) ≤ 2048 := by omega
    clear h2048
    have HJ := hid (show lexA 0 l = joinT [] (lexA 0 (l.drop 0)) by simp [joinT]; cases lexA 0 l <;> rfl)
    go_enter Tryz.func18, Tryz.ntmps18
    go_wp2_with fail
    go_loopw [5, 6] (fun v i wr => ∃ (k : Nat) (ts : List Tk), (k : Int) ≤ l.length ∧ i = .int .i64 k ∧ Hid (RLq w wr l v k ts)) (fun _ i _ => l.length - (intOf i).toNat)
    case atStart => exact ⟨0, [], by omega, rfl, HJ.out, Nat.zero_le _, Tr.nil _ _, Below.refl _ _⟩
    case round =>
      obtain ⟨k, ts, hk, rfl, HQ⟩ := hrel
      clear HJ
      by_cases hlt : k < l.length
      · have HLT := hid hlt
        have hkI : (k : Int) < l.length := by omega
        have hi := idx l k hlt
        cases hb : isBl l[k] with
        | true =>
          have HJ := hid (join_bl HQ.out.1 hlt hb)
          have hbb := hb
          simp [isBl] at hbb
          generalize l[k] = c at *
          clear hb
          rcases hbb with h | h | h | h
          · have hcI : (c.toNat : Int) = 32 := by omega
            clear h
            go_wp2_with fail
            go_roundw
            case rel => exact ⟨k + 1, ts, by omega, by go_num, HJ.out, by have := HQ.out.2.1; omega, HQ.out.2.2.1, HQ.out.2.2.2⟩
            case measure => simp [intOf]; omega
          · have hcI : (c.toNat : Int) = 9 := by omega
            clear h
            go_wp2_with fail
            go_roundw
            case rel => exact ⟨k + 1, ts, by omega, by go_num, HJ.out, by have := HQ.out.2.1; omega, HQ.out.2.2.1, HQ.out.2.2.2⟩
            case measure => simp [intOf]; omega
          · have hcI : (c.toNat : Int) = 10 := by omega
            clear h
            go_wp2_with fail
            go_roundw
            case rel => exact ⟨k + 1, ts, by omega, by go_num, HJ.out, by have := HQ.out.2.1; omega, HQ.out.2.2.1, HQ.out.2.2.2⟩
            case measure => simp [intOf]; omega
          · have hcI : (c.toNat : Int) = 13 := by omega
            clear h
            go_wp2_with fail
            go_roundw
            case rel => exact ⟨k + 1, ts, by omega, by go_num, HJ.out, by have := HQ.out.2.1; omega, HQ.out.2.2.1, HQ.out.2.2.2⟩
            case measure => simp [intOf]; omega
        | false =>
          have HB := hid hb
          simp [isBl] at hb
          obtain ⟨n1, n2, n3, n4⟩ := hb
          have c1 : ¬ ((l[k].toNat : Nat) : Int) = 32 := by omega
          have c2 : ¬ ((l[k].toNat : Nat) : Int) = 9 := by omega
          have c3 : ¬ ((l[k].toNat : Nat) : Int) = 10 := by omega
          have c4 : ¬ ((l[k].toNat : Nat) : Int) = 13 := by omega
          have b1 : (((l[k].toNat : Nat) : Int) == 32) = false := beq_eq_false_iff_ne.2 c1
          have b2 : (((l[k].toNat : Nat) : Int) == 9) = false := beq_eq_false_iff_ne.2 c2
          have b3 : (((l[k].toNat : Nat) : Int) == 10) = false := beq_eq_false_iff_ne.2 c3
          have b4 : (((l[k].toNat : Nat) : Int) == 13) = false := beq_eq_false_iff_ne.2 c4
          have hs := slF l k (by omega)
          have hdl : (l.drop k).length = l.length - k := by simp
          have HFi := hid (fun w => rone_any (l.drop k) (by omega) (by omega) w)
          clear hdl n1 n2 n3 n4
          cases hf : firstS (l.drop k) with
          | none =>
            have HO := hid (lexO_bad HLong.out (join_bad HQ.out.1 hlt HB.out hf))
            rw [hf] at HFi
            clear hf HB
            generalize l[k] = c at *
            go_wp2_with (first
              | (go_at_call 37; refine (HFi.out _).mono ?_; unfold OneP; rintro e w3 ⟨⟨kk, s, n, a, m, rfl, h0, -⟩, hb⟩; have hm := h0 rfl; subst hm; have HBB := hid (HQ.out.2.2.2.trans (hb.mono HQ.out.2.2.2.size)); clear hb h0))
            refine bodyPost_ret (v := .tuple #[.slice none 0 0, .int .i64 (k : Int), .int .i64 110]) (by simp [results, Tryz.results18, go_sem]) rfl ?_
            unfold LexP; rw [HO.out]
            exact ⟨_, rfl, Tr.nil _ _, HBB.out.alloc HBB.out.size _⟩
          | some x =>
            obtain ⟨t, n⟩ := x
            have hp := firstS_pos hf
            rw [List.length_drop] at hp
            have HJ := hid (join_tok HQ.out.1 hlt HB.out hf)
            rw [hf] at HFi
            clear hf HB
            generalize l[k] = c at *
            have hnI : ¬ (n : Int) = 0 := by omega
            have hkn : (k : Int) + n ≤ l.length := by omega
            clear hp
            go_wp2_with (first
              | (go_at_call 37; refine (HFi.out _).mono ?_; unfold OneP; rintro e w3 ⟨⟨kk, s, nn, a, m, rfl, -, h0⟩, hb⟩; obtain ⟨rfl, rfl, rfl, rfl, rfl⟩ := h0 t n rfl; have HBB := hid (HQ.out.2.2.2.trans (hb.mono HQ.out.2.2.2.size)); have HTr := hid (HQ.out.2.2.1.on hb); clear hb h0 HFi)
              | (at_builtin; refine appT (t := { t with at_ := k }) rfl _ _ rfl rfl ((HTr.out.alloc _).alloc _) rfl (two_boxes _ _ _ _ _ _) (by have := HQ.out.2.1; omega) (by have := HBB.out.size; simp; omega) ?_; intro v1 w1 ho1 hb1; have HTr1 := hid ho1; have HBB1 := hid (below_two HBB.out hb1); clear ho1 hb1))
            go_roundw
            case rel =>
              exact ⟨k + n, ts ++ [{ t with at_ := k }], by omega, by go_num, HJ.out, by simp; have := HQ.out.2.1; omega, HTr1.out, HBB1.out⟩
            case measure => simp [intOf]; omega
      · have HO := hid (lexO_ok HLong.out (join_end HQ.out.1 hlt))
        go_wp2_with fail
        refine bodyPost_ret (v := .tuple #[u5, .int .i64 0, .int .i64 0]) (by simp [results, Tryz.results18, go_sem]) rfl ?_
        unfold LexP; rw [HO.out]
        exact ⟨_, rfl, HQ.out.2.2.1, HQ.out.2.2.2⟩
end Go.Proofs.YtomnjckbgmbgmaaGreatDoor
