/-
  What Range of package runs returns.
-/
import Derived.Test.YtlbjbkhcnafhcaaGreatP17RnGet
import Derived.WalkMore
namespace Go.Proofs.YtlbjbkhcnafhcaaGreat.RN
open Go.RowKit Go.Sort Go.Shelf

theorem own_below {α : Type} {enc : α → List Value} {q e B : Nat} {w w' : World} {v : Value} {xs : List α} (ho : Own enc q e B w v xs) (hg : w.grownBy w' v.ownBlock) (hB : B ≤ w.heap.size) : Below B w w' := (Below.refl B w).grown hg hB (fun _ hj => (own_at ho hj).1)
/- Samples told, each with values of its own. -/
structure SmAt (Q : Nat → Prop) (w : World) (v : Value) (L : List Sp) : Prop where
  sl : ∃ p c, v = .slice p L.length c ∧ L.length ≤ c ∧ ∀ (j : Nat) s, L[j]? = some s → ∃ g o kp kc, p = some ⟨g, o, none⟩ ∧ w.cell? ⟨g, o + j * 2, none⟩ = some (.int .i64 s.t) ∧ w.cell? ⟨g, o + j * 2 + 1, none⟩ = some (.slice kp (List.length s.vs) kc) ∧ RowIn (ty36 Q w) w (.slice kp (List.length s.vs) kc) s.vs
theorem SmAt.on {Q : Nat → Prop} {w w' : World} {v : Value} {L : List Sp} (h : SmAt Q w v L) (hb : Below w.heap.size w w') : SmAt Q w' v L := by
  obtain ⟨p, c, hv, hc, hx⟩ := h.sl
  refine ⟨⟨p, c, hv, hc, fun j s hj => ?_⟩⟩
  obtain ⟨g, o, kp, kc, hp, c0, c1, hr⟩ := hx j s hj
  exact ⟨g, o, kp, kc, hp, cell_onB c0 hb, cell_onB c1 hb, row_kp (T := fun _ => False) hr (Kp.of hb) (fun _ _ => id)⟩
theorem own_sm {B : Nat} {Q : Nat → Prop} {w : World} {v : Value} {hs : List Sh} {L : List Sp} (ho : Own Sh.cells 2 105 B w v hs) (hh : HeadsS Q w hs L) (hl : L.length ≤ 1000) : SmAt Q w v L := ⟨own_sl ho hh hl⟩
set_option maxRecDepth 100000 in
set_option maxHeartbeats 4000000 in
theorem range_any {B : Nat} {P Q : Nat → Prop} {w : World} {b : Nat} {sv pv : Value} {l : List Sp} {a z : Int} (h : Rk B P w b sv pv l) (hlen : l.length ≤ 500) (hQ : ∀ k, w.heap.size ≤ k → Q k) :
    Calls Tryz.prog 61 #[dp b, .int .i64 a, .int .i64 z] w fun e w' => ∃ v hs, e = .returned v ∧ Own Sh.cells 2 105 w.heap.size w' v hs ∧ HeadsS Q w' hs (rngS l a z) ∧ Below w.heap.size w w' := by
  have HK := hid h
  have HQ := hid hQ
  have HLen := hid hlen
  clear hQ
  by_cases hne : l = []
  · subst hne
    clear h
    go_enter Tryz.func61, Tryz.ntmps61
    go_wp2
    go_step3
    go_wp2_with (go_at_call 55; refine (find_any HK.out (by simp)).mono ?_; rintro e w1 ⟨rfl, hb1⟩; have HB1 := hid hb1; clear hb1)
    go_step3
    go_wp2
    go_loopw [7, 8, 9, 12] (fun ov pv qv xv wr => ov = .slice none 0 0 ∧ pv = .int .i64 0 ∧ Hid (Below w.heap.size w wr)) (fun _ _ _ _ _ => 0)
    case atStart => exact ⟨rfl, rfl, HB1.out⟩
    case round =>
      obtain ⟨rfl, rfl, HB⟩ := hrel
      have k0 := (rk_none (HK.out.on HB.out)).2.2
      go_wp2
      rw [Exit.noGoto_ret]
      go_ret
      exact ⟨_, [], rfl, Own.nil _ _ _ _ _, HeadsS.nil _ _, HB.out⟩
  · obtain ⟨g, c, g2, c2, rfl, rfl, hv⟩ := rk_view h (by omega) hne
    have HV := hid hv
    have hc1 := hv.hc
    have hc2 := hv.hc2
    have HU := hid h.up
    have hpl := posT_le a l
    have HRp := hid (rng_pos l a z)
    clear h hv hne
    generalize hn : l.length = n at *
    have HN := hid hn
    clear hn
    have HPge := hid (fun j s (hj : posT a l ≤ j) (hs : l[j]? = some s) => posT_ge HU.out hj hs)
    generalize hpp : posT a l = pp at *
    have HPP := hid hpp
    clear hpp
    generalize hrr : rngS l a z = rr
    have HRR := hid hrr
    clear hrr
    generalize hqq : hasT l a = qq at *
    have HQQ := hid hqq
    clear hqq
    go_enter Tryz.func61, Tryz.ntmps61
    go_wp2
    go_step3
    go_wp2_with (go_at_call 55; refine (find_is HK.out (by have := HLen.out; have := HN.out; omega) HPP.out HQQ.out).mono ?_; rintro e w1 ⟨rfl, hb1⟩; have HB1 := hid hb1; clear hb1)
    go_step3
    go_wp2
    go_loopw [7, 8, 9, 12] (fun ov pv qv xv wr => (ov = .slice none 0 0 ∧ pv = .int .i64 0 ∧ qv = .int .i64 pp ∧ wr = w1) ∨ (pv = .int .i64 1 ∧ ∃ hs, Hid (Own Sh.cells 2 105 w.heap.size wr ov hs) ∧ Hid (HeadsS Q wr hs rr) ∧ Hid (Below w.heap.size w wr))) (fun _ pv _ _ _ => 1 - (intOf pv).toNat)
    case atStart => exact .inl ⟨rfl, rfl, rfl, rfl⟩
    case round =>
      rcases hrel with ⟨rfl, rfl, rfl, hw⟩ | ⟨rfl, hs, HO, HH, HB⟩
      · subst hw
        have hv1 := HV.out.on HB1.out
        have k0 := hv1.k0
        have k1 := hv1.k1
        rw [HN.out] at k1
        by_cases hpn : pp < n
        · have hcp : ¬ (c2 = pp) := by omega
          go_wp2
          obtain ⟨W1, hW1⟩ : ∃ W, W = wr := ⟨wr, rfl⟩
          subst hW1
          clear k0 k1 hv1
          go_loopw [7, 12, 39] (fun ov xv iv wi => ∃ (k : Nat) (hs : List Sh), pp + k ≤ n ∧ iv = .int .i64 k ∧ Hid (Own Sh.cells 2 105 w.heap.size wi ov hs) ∧ Hid (HeadsS Q wi hs (rngS (l.take (pp + k)) a z)) ∧ Hid (Below w.heap.size w wi)) (fun _ _ iv _ => n - pp - (intOf iv).toNat)
          case atStart => exact ⟨0, [], by omega, rfl, Own.nil _ _ _ _ _, (by rw [Nat.add_zero, HRp.out]; exact HeadsS.nil _ _), HB1.out⟩
          case round =>
            obtain ⟨k, hs, hk, rfl, HO, HH, HB⟩ := hrel
            obtain ⟨W2, hW2⟩ : ∃ W, W = wr := ⟨wr, rfl⟩
            subst hW2
            by_cases hkn : k < n - pp
            · have hkl : pp + k < l.length := by rw [HN.out]; omega
              obtain ⟨s, hs'⟩ : ∃ s, l[pp + k]? = some s := ⟨l[pp + k], List.getElem?_eq_getElem hkl⟩
              obtain ⟨kp, kc, c0, c1, hr⟩ := (HV.out.on HB.out).sm (pp + k) s hs'
              rw [Nat.add_mul] at c0 c1
              have HR := hid hr.at
              have HS := hid hs'
              have HGe := hid (HPge.out (pp + k) s (Nat.le_add_right _ _) hs')
              have HStep := hid (rng_step a z hs')
              have HLn := hid (Nat.le_trans (rng_len (l.take (pp + k)) a z) (List.length_take_le _ _))
              clear hr hs'
              generalize hns : List.length s.vs = ns at *
              have HNS := hid hns
              clear hns
              by_cases hz : z < s.t
              · have HStop := hid (rng_stop HU.out (a := a) HS.out hz)
                go_wp2
                rw [Exit.noGoto_ret]
                go_ret
                have hba := (Below.refl W2.heap.size W2).alloc (Nat.le_refl _) (.cells #[.int .i64 s.t, .slice kp ns kc] 105)
                exact ⟨_, hs, rfl, own_kp (T := fun _ => False) HO.out (Kp.of hba) (fun _ _ => id), (by rw [← HRR.out, HStop.out]; exact HH.out.on hba), HB.out.trans (hba.mono HB.out.size)⟩
              · have hin : inR a z s = true := by have := HGe.out; simp [inR]; omega
                rw [hin, if_pos rfl] at HStep
                go_wp2_with fail
                have HS3 := hid (alloc_block W2 (.cells #[.int .i64 s.t, .slice kp ns kc] 105))
                have hba := (Below.refl W2.heap.size W2).alloc (Nat.le_refl _) (.cells #[.int .i64 s.t, .slice kp ns kc] 105)
                have HR3 := hid (HR.out.on hba)
                have HO3 := hid (own_kp (T := fun _ => False) HO.out (Kp.of hba) (fun _ _ => id))
                have HH3 := hid (HH.out.on hba)
                have HB3 := hid (HB.out.trans (hba.mono HB.out.size))
                clear hba c0 c1 HR HH HB HO
                generalize (W2.alloc (.cells #[.int .i64 s.t, .slice kp ns kc] 105)) = W3 at *
                generalize W2.heap.size = bs at *
                obtain ⟨p7, c7, rfl⟩ := own_formN HO3.out (HH3.out.1)
                generalize hrl : (rngS (l.take (pp + k)) a z).length = rl at *
                have HRl := hid hrl
                clear hrl
                have k3 : W3.drew.cell? ⟨bs, 0, none⟩ = some (.int .i64 s.t) := by show W3.cell? _ = _; rw [block_cell HS3.out]; rfl
                have k4 : W3.drew.cell? ⟨bs, 1, none⟩ = some (.slice kp ns kc) := by show W3.cell? _ = _; rw [block_cell HS3.out]; rfl
                have M1 : Hid True := trivial
                go_region_law (first
                  | (have FIRST := M1; refine step_callC (v := .slice kp ns kc) rfl (.tmp 51) 32 rfl (by simp [Act.eval]; try rfl) enters22 ?_; refine (cloneK_any (P := Q) (HR3.out.on (Below.refl _ _).drew) (fun k hk => HQ.out k (Nat.le_trans HB3.out.size hk))).mono ?_; rintro e w4 ⟨p4, c4, rfl, hr4, hb4⟩; rw [HNS.out] at hr4 ⊢; refine ⟨_, rfl, ?_⟩; have HR4 := hid hr4; have HB4 : Hid (Below W3.heap.size W3 w4) := (Below.refl _ _).drew.trans hb4; have k5 := block_cell (block_on HS3.out HB4.out); clear FIRST M1 hr4 hb4)
                  | (refine step_appP (N := 32) (B := w.heap.size) (xs := hs) (ys := [⟨s.t, .slice p4 ns c4⟩]) elem32 sh_len (fun x hx => by simp at hx; subst hx; exact sh_cells rfl) rfl (.tmp 47) (.tmp 54) rfl (by simp [Act.eval]; try rfl) (by simp [Act.eval]; try rfl) (own_kp (T := fun _ => False) HO3.out (Kp.of (HB4.out.alloc HB4.out.size _)) (fun _ _ => id)) (sh_sl (s := ⟨s.t, .slice p4 ns c4⟩) (alloc_block _ _)) (by rw [HH3.out.1, HRl.out]; have := HLn.out; simp; omega) (by decide) (by rw [World.size_alloc]; exact Nat.le_trans HB3.out.size (Nat.le_succ_of_le HB4.out.size)) ?_; intro v5 w5 hown5 hg5 hat5; have HO5 := hid hown5; have hbb : Below w4.heap.size w4 (w4.alloc (.cells #[.int .i64 s.t, .slice p4 ns c4] 105)) := ((Below.refl _ _).alloc (Nat.le_refl _) _); have hkk := (Kp.grown (T := fun x => (Value.slice p7 rl c7).ownBlock = some x) hg5 (fun k e => e)); have HKk := hid hkk; have HBw := hid (own_below (own_kp (T := fun _ => False) HO3.out (Kp.of (HB4.out.trans (hbb.mono HB4.out.size))) (fun _ _ => id)) hg5 (Nat.le_trans HB3.out.size (Nat.le_trans HB4.out.size hbb.size))); clear hown5 hg5 hat5 hbb hkk))
                all_goals
                  go_wp2
                  go_roundw
                  case rel =>
                    have hb4a := HB4.out.alloc HB4.out.size (.cells #[.int .i64 s.t, .slice p4 ns c4] 105)
                    have hh4 := (HH3.out.on hb4a).kp HKk.out (fun k hk e => by obtain ⟨-, x, y, hx⟩ := hk; obtain ⟨x', y', hx'⟩ := own_kind (own_kp (T := fun _ => False) HO3.out (Kp.of hb4a) (fun _ _ => id)) e; rw [hx] at hx'; cases hx')
                    have hr4 := row_kp (row_kp (T := fun _ => False) HR4.out (Kp.of ((Below.refl _ _).alloc (Nat.le_refl _) (.cells #[.int .i64 s.t, .slice p4 ns c4] 105))) (fun _ _ => id)) HKk.out (fun k hk e => by obtain ⟨-, x, y, hx⟩ := hk; obtain ⟨x', y', hx'⟩ := own_kind (own_kp (T := fun _ => False) HO3.out (Kp.of hb4a) (fun _ _ => id)) e; rw [hx] at hx'; cases hx')
                    exact ⟨k + 1, _, by omega, by go_num, HO5.out, (by rw [show pp + (k + 1) = pp + k + 1 by omega, HStep.out]; exact hh4.app (HeadsS.one (h := ⟨s.t, .slice p4 ns c4⟩) (s := s) rfl hr4)), (HB3.out.trans (hb4a.mono HB3.out.size)).trans HBw.out⟩
                  case measure => simp [intOf]; omega
            · have hkk : pp + k = n := by omega
              have hta : l.take (pp + k) = l := List.take_of_length_le (by rw [HN.out, hkk]; exact Nat.le_refl _)
              rw [hta, HRR.out] at HH
              clear hta
              go_wp2
              go_roundw
              case rel => exact .inr ⟨by go_num, hs, HO.out, HH.out, HB.out⟩
              case measure => simp [intOf]
        · obtain rfl : pp = n := by omega
          have hrr : rr = [] := by rw [← HRR.out, ← HRp.out, List.take_of_length_le (by rw [HN.out]; exact Nat.le_refl _)]
          subst hrr
          by_cases hcp : c2 = pp
          · subst hcp
            go_wp2
            clear k0 k1 hv1
            go_loopw [7, 12, 39] (fun ov xv iv wi => ov = .slice none 0 0 ∧ iv = .int .i64 0 ∧ Hid (Below w.heap.size w wi)) (fun _ _ _ _ => 0)
            case atStart => exact ⟨rfl, rfl, HB1.out⟩
            case round =>
              obtain ⟨rfl, rfl, HB⟩ := hrel
              go_wp2
              go_roundw
              case rel => exact .inr ⟨by go_num, [], Own.nil _ _ _ _ _, HeadsS.nil _ _, HB.out⟩
              case measure => simp [intOf]
          · go_wp2
            clear k0 k1 hv1
            go_loopw [7, 12, 39] (fun ov xv iv wi => ov = .slice none 0 0 ∧ iv = .int .i64 0 ∧ Hid (Below w.heap.size w wi)) (fun _ _ _ _ => 0)
            case atStart => exact ⟨rfl, rfl, HB1.out⟩
            case round =>
              obtain ⟨rfl, rfl, HB⟩ := hrel
              go_wp2
              go_roundw
              case rel => exact .inr ⟨by go_num, [], Own.nil _ _ _ _ _, HeadsS.nil _ _, HB.out⟩
              case measure => simp [intOf]
      · have hv1 := HV.out.on HB.out
        have k0 := hv1.k0
        go_wp2
        rw [Exit.noGoto_ret]
        go_ret
        exact ⟨_, hs, rfl, HO.out, HH.out, HB.out⟩
end Go.Proofs.YtlbjbkhcnafhcaaGreat.RN
