/-
  What table.Union returns, for every two tables (at most 4096 rows together).
-/
import Derived.Test.YtaccindmjaejdaaPF
import Derived.Test.YtaccindmjaejdaaPN
namespace Go.Proofs.Ytaccindmjaejdaa
open Go.RowKit Go.Sort Go.Shelf

def unionE (cs : List Cl) (rs : List Rw) (ds : List Cl) (qs : List Rw) : Int := if checkV cs rs = 0 then (if checkV ds qs = 0 then (if cs = ds then 0 else 20) else checkV ds qs) else checkV cs rs
def unionC (cs : List Cl) (rs : List Rw) (ds : List Cl) (qs : List Rw) : List Cl := if unionE cs rs ds qs = 0 then cs else []
def unionR (cs : List Cl) (rs : List Rw) (ds : List Cl) (qs : List Rw) : List Rw := if unionE cs rs ds qs = 0 then sortR (rs ++ qs) else []
theorem tab_nil' (Q : Nat → Prop) (w : World) : TabIn Q w (.agg #[.slice none 0 0, .slice none 0 0]) [] [] := ⟨_, _, rfl, SlAt.nil _ _ _ _, [], SlAt.nil _ _ _ _, ⟨rfl, fun j h r h1 _ => by simp at h1⟩⟩
theorem check_is' {v : Value} {cs : List Cl} {rs : List Rw} {w : World} {c : Int} (hv : TabAt w v cs rs) (h : checkV cs rs = c) :
    Calls Try.prog 33 #[v] w fun e w' => e = .returned (.int .i64 c) ∧ Below w.heap.size w w' := by rw [← h]; exact check_any hv
set_option maxHeartbeats 4000000 in
theorem union_any {s t : Value} {cs ds : List Cl} {rs qs : List Rw} {w : World} (hs : TabAt w s cs rs) (ht : TabAt w t ds qs) (hl : rs.length + qs.length ≤ 4096) :
    Calls Try.prog 19 #[s, t] w fun e w' => ∃ v', e = .returned (.tuple #[v', .int .i64 (unionE cs rs ds qs)]) ∧ TabIn (fun b => w.heap.size ≤ b) w' v' (unionC cs rs ds qs) (unionR cs rs ds qs) ∧ Below w.heap.size w w' := by
  have HS := hid hs
  have HT := hid ht
  obtain ⟨c, r, rfl, hc, hr⟩ := hs
  obtain ⟨c', r', rfl, hc', hr'⟩ := ht
  have HC := hid hc
  have HR := hid hr
  have HC' := hid hc'
  have HR' := hid hr'
  have HLEN := hid hl
  obtain ⟨pc, capc, rfl, -⟩ := hc
  obtain ⟨hs1, ⟨pr, capr, rfl, -⟩, -⟩ := hr
  obtain ⟨pc', capc', rfl, -⟩ := hc'
  obtain ⟨hs2, ⟨pr', capr', rfl, -⟩, -⟩ := hr'
  clear hl
  generalize cs.length = nc at *
  generalize hs1.length = nr at *
  generalize ds.length = nc' at *
  generalize hs2.length = nr' at *
  generalize hA : (Obj.cells #[.slice pc nc capc, .slice pr nr capr] 25 (0, 0)) = OA
  generalize hB : (Obj.cells #[.slice pc' nc' capc', .slice pr' nr' capr'] 25 (0, 0)) = OB
  generalize hR : (Obj.cells #[.slice none 0 0, .slice none 0 0] 25 (0, 0)) = OR
  generalize hL : (Obj.cells #[.slice pc nc capc, .slice pr nr capr, .slice pc' nc' capc', .slice pr' nr' capr'] 25 (0, 0)) = OL
  have al := fun (W : World) (o : Obj) => (Below.refl W.heap.size W).alloc (Nat.le_refl _) o
  have K0 := hid (block_on (block_on (block_on (alloc_block w OA) (al _ OB)) (al _ OR)) (al _ OL))
  have K1 := hid (block_on (block_on (alloc_block (w.alloc OA) OB) (al _ OR)) (al _ OL))
  have K2 := hid (block_on (alloc_block ((w.alloc OA).alloc OB) OR) (al _ OL))
  have K3 := hid (alloc_block (((w.alloc OA).alloc OB).alloc OR) OL)
  have HB := hid (below_on (below_on (below_on (al w OA) (al _ OB)) (al _ OR)) (al _ OL))
  clear al
  simp only [World.size_alloc] at K1 K2 K3
  subst hA hB hR hL
  generalize hch : checkV cs rs = ch
  have HCH := hid hch
  clear hch
  by_cases hz : ch = 0
  · subst hz
    generalize hch' : checkV ds qs = ch'
    have HCH' := hid hch'
    clear hch'
    by_cases hz' : ch' = 0
    · subst hz'
      have hE : unionE cs rs ds qs = if cs = ds then 0 else 20 := by unfold unionE; rw [HCH.out, HCH'.out, if_pos rfl, if_pos rfl]
      cases heq : decide (cs = ds) with
      | false =>
        have hkE : unionE cs rs ds qs = 20 := by rw [hE, if_neg (of_decide_eq_false heq)]
        have hkC : unionC cs rs ds qs = [] := by unfold unionC; rw [hkE, if_neg (by decide)]
        have hkR : unionR cs rs ds qs = [] := by unfold unionR; rw [hkE, if_neg (by decide)]
        rw [hkE, hkC, hkR]
        clear hE hkE hkC hkR
        go_enter Try.func19, Try.ntmps19
        go_wp2
        generalize ((((w.alloc (.cells #[.slice pc nc capc, .slice pr nr capr] 25)).alloc (.cells #[.slice pc' nc' capc', .slice pr' nr' capr'] 25)).alloc (.cells #[.slice none 0 0, .slice none 0 0] 25)).alloc (.cells #[.slice pc nc capc, .slice pr nr capr, .slice pc' nc' capc', .slice pr' nr' capr'] 25)) = W at *
        have k3 := block_cell K3.out
        have l3 := lt_of_block K3.out
        refine wp_loop_rounds 3 ?_
        rw [rounds_succ]
        go_wp2_with (first | (go_at_call 33; refine (check_is' (HS.out.on (HB.out.alloc HB.out.size _)) HCH.out).mono ?_; rintro e w1 ⟨rfl, hb1⟩; have HB1 := hid (below_on (HB.out.alloc HB.out.size _) hb1); have K01 := hid (block_on (block_on K0.out ((Below.refl _ _).alloc (Nat.le_refl _) _)) hb1); have K11 := hid (block_on (block_on K1.out ((Below.refl _ _).alloc (Nat.le_refl _) _)) hb1); have KR := hid (block_on (block_on K2.out ((Below.refl _ _).alloc (Nat.le_refl _) _)) hb1); have K31 := hid (block_on (block_on K3.out ((Below.refl _ _).alloc (Nat.le_refl _) _)) hb1); have kr := block_cell KR.out; have fr := frozen_no KR.out; have k31 := block_cell K31.out; clear hb1))
        clear kr fr k31 k3
        have k31 := block_cell K31.out
        have l31 := lt_of_block K31.out
        rw [rounds_succ]
        go_wp2_with (first | (go_at_call 33; refine (check_is' (HT.out.on (HB1.out.alloc HB1.out.size _)) HCH'.out).mono ?_; rintro e w2 ⟨rfl, hb2⟩; have HB2 := hid (below_on (HB1.out.alloc HB1.out.size _) hb2); have K02 := hid (block_on (block_on K01.out ((Below.refl _ _).alloc (Nat.le_refl _) _)) hb2); have K12 := hid (block_on (block_on K11.out ((Below.refl _ _).alloc (Nat.le_refl _) _)) hb2); replace KR := hid (block_on (block_on KR.out ((Below.refl _ _).alloc (Nat.le_refl _) _)) hb2); have kr := block_cell KR.out; have fr := frozen_no KR.out; clear hb2))
        clear kr fr k31
        have k02 := block_cell K02.out
        have k12 := block_cell K12.out
        rw [rounds_succ]
        go_wp2_with (first | (go_at_call 46; refine (equalC_is (HC.out.on HB2.out) (HC'.out.on HB2.out) heq).mono ?_; rintro e w3 ⟨rfl, hb3⟩; have HB3 := hid (below_on HB2.out hb3); replace KR := hid (block_on KR.out hb3); have kr := block_cell KR.out; have fr := frozen_no KR.out; clear hb3))
        clear kr fr k02 k12
        refine bodyPost_ret (v := .tuple #[.agg #[.slice none 0 0, .slice none 0 0], .int .i64 20]) ?_ rfl ⟨_, rfl, tab_nil' _ _, below_set (below_set HB3.out (by omega)) (by omega)⟩
        have KF := Joins.block_setCell (i := 1) (Joins.block_setCell (i := 0) KR.out (.slice none 0 0)) (.slice none 0 0)
        generalize ((w3.setCell ⟨w.heap.size + 1 + 1, 0, none⟩ (.slice none 0 0)).setCell ⟨w.heap.size + 1 + 1, 1, none⟩ (.slice none 0 0)) = WF at KF ⊢
        have kcf := block_cell KF
        clear KF
        simp [results, Try.results19, go_sem, kcf]
      | true =>
        have hkE : unionE cs rs ds qs = 0 := by rw [hE, if_pos (of_decide_eq_true heq)]
        have hkC : unionC cs rs ds qs = cs := by unfold unionC; rw [hkE, if_pos rfl]
        have hkR : unionR cs rs ds qs = sortR (rs ++ qs) := by unfold unionR; rw [hkE, if_pos rfl]
        rw [hkE, hkC, hkR]
        clear hE hkE hkC hkR
        go_enter Try.func19, Try.ntmps19
        go_wp2
        generalize ((((w.alloc (.cells #[.slice pc nc capc, .slice pr nr capr] 25)).alloc (.cells #[.slice pc' nc' capc', .slice pr' nr' capr'] 25)).alloc (.cells #[.slice none 0 0, .slice none 0 0] 25)).alloc (.cells #[.slice pc nc capc, .slice pr nr capr, .slice pc' nc' capc', .slice pr' nr' capr'] 25)) = W at *
        have k3 := block_cell K3.out
        have l3 := lt_of_block K3.out
        refine wp_loop_rounds 3 ?_
        rw [rounds_succ]
        go_wp2_with (first | (go_at_call 33; refine (check_is' (HS.out.on (HB.out.alloc HB.out.size _)) HCH.out).mono ?_; rintro e w1 ⟨rfl, hb1⟩; have HB1 := hid (below_on (HB.out.alloc HB.out.size _) hb1); have K01 := hid (block_on (block_on K0.out ((Below.refl _ _).alloc (Nat.le_refl _) _)) hb1); have K11 := hid (block_on (block_on K1.out ((Below.refl _ _).alloc (Nat.le_refl _) _)) hb1); have KR := hid (block_on (block_on K2.out ((Below.refl _ _).alloc (Nat.le_refl _) _)) hb1); have K31 := hid (block_on (block_on K3.out ((Below.refl _ _).alloc (Nat.le_refl _) _)) hb1); have kr := block_cell KR.out; have fr := frozen_no KR.out; have k31 := block_cell K31.out; clear hb1))
        clear kr fr k31 k3
        have k31 := block_cell K31.out
        have l31 := lt_of_block K31.out
        rw [rounds_succ]
        go_wp2_with (first | (go_at_call 33; refine (check_is' (HT.out.on (HB1.out.alloc HB1.out.size _)) HCH'.out).mono ?_; rintro e w2 ⟨rfl, hb2⟩; have HB2 := hid (below_on (HB1.out.alloc HB1.out.size _) hb2); have K02 := hid (block_on (block_on K01.out ((Below.refl _ _).alloc (Nat.le_refl _) _)) hb2); have K12 := hid (block_on (block_on K11.out ((Below.refl _ _).alloc (Nat.le_refl _) _)) hb2); replace KR := hid (block_on (block_on KR.out ((Below.refl _ _).alloc (Nat.le_refl _) _)) hb2); have kr := block_cell KR.out; have fr := frozen_no KR.out; clear hb2))
        clear kr fr k31
        have k02 := block_cell K02.out
        have k12 := block_cell K12.out
        rw [rounds_succ]
        go_wp2_with (first | (go_at_call 46; refine (equalC_is (HC.out.on HB2.out) (HC'.out.on HB2.out) heq).mono ?_; rintro e w3 ⟨rfl, hb3⟩; have HB3 := hid (below_on HB2.out hb3); replace KR := hid (block_on KR.out hb3); have K03 := hid (block_on K02.out hb3); have K13 := hid (block_on K12.out hb3); clear hb3))
        clear k02 k12
        have k03 := block_cell K03.out
        have k13 := block_cell K13.out
        have l03 := lt_of_block K03.out
        have l13 := lt_of_block K13.out
        go_region_with (first | (go_at_call 47; refine (concat_any (by first | exact alloc_block _ _ | exact alloc_block w3 _) (HR.out.on (by first | exact HB3.out.alloc HB3.out.size _ | exact (HB3.out.alloc HB3.out.size _).drew | exact HB3.out.drew.alloc HB3.out.size _)) (HR'.out.on (by first | exact HB3.out.alloc HB3.out.size _ | exact (HB3.out.alloc HB3.out.size _).drew | exact HB3.out.drew.alloc HB3.out.size _)) HLEN.out).mono ?_; rintro e w4 ⟨v4, rfl, hr4, hb4⟩; have HR4 := hid hr4; have HB4 : Hid (Below w3.heap.size w3 w4) := (by first | exact below_on ((Below.refl _ _).alloc (Nat.le_refl _) _) hb4 | exact below_on ((Below.refl _ _).alloc (Nat.le_refl _) _) ((Below.refl _ _).drew.trans hb4) | exact below_on (((Below.refl _ _).drew).alloc (Nat.le_refl _) _) hb4); have K04 := hid (block_on K03.out HB4.out); have KR4 := hid (block_on KR.out HB4.out); have k04 := block_cell K04.out; obtain ⟨hs4, ⟨p4, cap4, rfl, -⟩, -⟩ := hr4; clear hb4) | (go_at_call 31; refine (canon_any ⟨_, _, rfl, HC.out.on (below_on HB3.out HB4.out), HR4.out⟩).mono ?_; rintro e w5 ⟨v5, rfl, ht5, hb5⟩; have HT5 := hid ht5; have HB5 := hid hb5; have K15 := hid (block_on KR4.out HB5.out); have k15 := block_cell K15.out; have f15 := frozen_no K15.out; obtain ⟨c5, r5, rfl, ⟨pc5, capc5, rfl, -⟩, hs5, ⟨pr5, capr5, rfl, -⟩, -⟩ := ht5; clear hb5))
        all_goals
          have l1 := lt_of_block KR4.out
          clear k03 k13 k04 k15 f15
          go_wp2
          refine bodyPost_ret (v := .tuple #[.agg #[.slice pc5 cs.length capc5, .slice pr5 hs5.length capr5], .int .i64 0]) ?_ rfl ⟨_, rfl, ?_, ?_⟩
          · have KF := Joins.block_setCell (i := 1) (Joins.block_setCell (i := 0) K15.out (.slice pc5 cs.length capc5)) (.slice pr5 hs5.length capr5)
            generalize ((w5.setCell ⟨w.heap.size + 1 + 1, 0, none⟩ (.slice pc5 cs.length capc5)).setCell ⟨w.heap.size + 1 + 1, 1, none⟩ (.slice pr5 hs5.length capr5)) = WF at KF ⊢
            have kcf := block_cell KF
            clear KF
            simp [results, Try.results19, go_sem, kcf]
          · exact (TabIn.set (fun b (hb : w4.heap.size ≤ b) => by omega) (TabIn.set (fun b (hb : w4.heap.size ≤ b) => by omega) HT5.out)).imp (fun b (hb : w4.heap.size ≤ b) => by omega)
          · exact below_set (below_set (below_on (below_on HB3.out HB4.out) HB5.out) (by omega)) (by omega)
    · have hne : (ch' != 0) = true := by simpa using hz'
      have hkE : unionE cs rs ds qs = ch' := by unfold unionE; rw [HCH.out, HCH'.out, if_pos rfl, if_neg hz']
      have hkC : unionC cs rs ds qs = [] := by unfold unionC; rw [hkE, if_neg hz']
      have hkR : unionR cs rs ds qs = [] := by unfold unionR; rw [hkE, if_neg hz']
      rw [hkE, hkC, hkR]
      have HZ := hid hz'
      clear hz' hkE hkC hkR
      go_enter Try.func19, Try.ntmps19
      go_wp2
      generalize ((((w.alloc (.cells #[.slice pc nc capc, .slice pr nr capr] 25)).alloc (.cells #[.slice pc' nc' capc', .slice pr' nr' capr'] 25)).alloc (.cells #[.slice none 0 0, .slice none 0 0] 25)).alloc (.cells #[.slice pc nc capc, .slice pr nr capr, .slice pc' nc' capc', .slice pr' nr' capr'] 25)) = W at *
      have k3 := block_cell K3.out
      have l3 := lt_of_block K3.out
      refine wp_loop_rounds 3 ?_
      rw [rounds_succ]
      go_wp2_with (first | (go_at_call 33; refine (check_is' (HS.out.on (HB.out.alloc HB.out.size _)) HCH.out).mono ?_; rintro e w1 ⟨rfl, hb1⟩; have HB1 := hid (below_on (HB.out.alloc HB.out.size _) hb1); have K01 := hid (block_on (block_on K0.out ((Below.refl _ _).alloc (Nat.le_refl _) _)) hb1); have K11 := hid (block_on (block_on K1.out ((Below.refl _ _).alloc (Nat.le_refl _) _)) hb1); have KR := hid (block_on (block_on K2.out ((Below.refl _ _).alloc (Nat.le_refl _) _)) hb1); have K31 := hid (block_on (block_on K3.out ((Below.refl _ _).alloc (Nat.le_refl _) _)) hb1); have kr := block_cell KR.out; have fr := frozen_no KR.out; have k31 := block_cell K31.out; clear hb1))
      clear kr fr k31 k3
      have k31 := block_cell K31.out
      have l31 := lt_of_block K31.out
      rw [rounds_succ]
      go_wp2_with (first | (go_at_call 33; refine (check_is' (HT.out.on (HB1.out.alloc HB1.out.size _)) HCH'.out).mono ?_; rintro e w2 ⟨rfl, hb2⟩; have HB2 := hid (below_on (HB1.out.alloc HB1.out.size _) hb2); have K02 := hid (block_on (block_on K01.out ((Below.refl _ _).alloc (Nat.le_refl _) _)) hb2); have K12 := hid (block_on (block_on K11.out ((Below.refl _ _).alloc (Nat.le_refl _) _)) hb2); replace KR := hid (block_on (block_on KR.out ((Below.refl _ _).alloc (Nat.le_refl _) _)) hb2); have kr := block_cell KR.out; have fr := frozen_no KR.out; clear hb2))
      clear kr fr k31
      refine bodyPost_ret (v := .tuple #[.agg #[.slice none 0 0, .slice none 0 0], .int .i64 ch']) ?_ rfl ⟨_, rfl, tab_nil' _ _, below_set (below_set HB2.out (by omega)) (by omega)⟩
      have KF := Joins.block_setCell (i := 1) (Joins.block_setCell (i := 0) KR.out (.slice none 0 0)) (.slice none 0 0)
      generalize ((w2.setCell ⟨w.heap.size + 1 + 1, 0, none⟩ (.slice none 0 0)).setCell ⟨w.heap.size + 1 + 1, 1, none⟩ (.slice none 0 0)) = WF at KF ⊢
      have kcf := block_cell KF
      clear KF
      simp [results, Try.results19, go_sem, kcf]
  · have hne : (ch != 0) = true := by simpa using hz
    have hkE : unionE cs rs ds qs = ch := by unfold unionE; rw [HCH.out, if_neg hz]
    have hkC : unionC cs rs ds qs = [] := by unfold unionC; rw [hkE, if_neg hz]
    have hkR : unionR cs rs ds qs = [] := by unfold unionR; rw [hkE, if_neg hz]
    rw [hkE, hkC, hkR]
    have HZ := hid hz
    clear hz hkE hkC hkR
    go_enter Try.func19, Try.ntmps19
    go_wp2
    generalize ((((w.alloc (.cells #[.slice pc nc capc, .slice pr nr capr] 25)).alloc (.cells #[.slice pc' nc' capc', .slice pr' nr' capr'] 25)).alloc (.cells #[.slice none 0 0, .slice none 0 0] 25)).alloc (.cells #[.slice pc nc capc, .slice pr nr capr, .slice pc' nc' capc', .slice pr' nr' capr'] 25)) = W at *
    have k3 := block_cell K3.out
    have l3 := lt_of_block K3.out
    refine wp_loop_rounds 3 ?_
    rw [rounds_succ]
    go_wp2_with (first | (go_at_call 33; refine (check_is' (HS.out.on (HB.out.alloc HB.out.size _)) HCH.out).mono ?_; rintro e w1 ⟨rfl, hb1⟩; have HB1 := hid (below_on (HB.out.alloc HB.out.size _) hb1); have K01 := hid (block_on (block_on K0.out ((Below.refl _ _).alloc (Nat.le_refl _) _)) hb1); have K11 := hid (block_on (block_on K1.out ((Below.refl _ _).alloc (Nat.le_refl _) _)) hb1); have KR := hid (block_on (block_on K2.out ((Below.refl _ _).alloc (Nat.le_refl _) _)) hb1); have K31 := hid (block_on (block_on K3.out ((Below.refl _ _).alloc (Nat.le_refl _) _)) hb1); have kr := block_cell KR.out; have fr := frozen_no KR.out; have k31 := block_cell K31.out; clear hb1))
    clear kr fr k31 k3
    refine bodyPost_ret (v := .tuple #[.agg #[.slice none 0 0, .slice none 0 0], .int .i64 ch]) ?_ rfl ⟨_, rfl, tab_nil' _ _, below_set (below_set HB1.out (by omega)) (by omega)⟩
    have KF := Joins.block_setCell (i := 1) (Joins.block_setCell (i := 0) KR.out (.slice none 0 0)) (.slice none 0 0)
    generalize ((w1.setCell ⟨w.heap.size + 1 + 1, 0, none⟩ (.slice none 0 0)).setCell ⟨w.heap.size + 1 + 1, 1, none⟩ (.slice none 0 0)) = WF at KF ⊢
    have kcf := block_cell KF
    clear KF
    simp [results, Try.results19, go_sem, kcf]
end Go.Proofs.Ytaccindmjaejdaa
