/-
  What the reference's Union returns, for every two tables.
-/
import Derived.Test.YtoadamimfhjoiaaRUnionOk
import Derived.Test.YtoadamimfhjoiaaChecksWalk
namespace Go.Proofs.Ytoadamimfhjoiaa
open Go.RowKit Go.Sort Go.Shelf

set_option maxRecDepth 100000 in
set_option maxHeartbeats 1000000 in
theorem runion_any {s t : Value} {cs ds : List Cl} {rs qs : List Rw} {w : World} (hs : TabAt w s cs rs) (ht : TabAt w t ds qs) (hl : rs.length + qs.length ≤ 4096) :
    Calls Try.prog 23 #[s, t] w fun e w' => ∃ v', e = .returned (.tuple #[v', .int .i64 (unionE cs rs ds qs)]) ∧ TabAt w' v' (unionC cs rs ds qs) (unionR cs rs ds qs) ∧ Below w.heap.size w w' := by
  have HS0 := hid hs
  have HT0 := hid ht
  have HL0 := hid hl
  have HS := hid hs
  have HT := hid ht
  obtain ⟨c, r, rfl, hc, hs1, hr, hh⟩ := hs
  obtain ⟨c', r', rfl, hc', hs2, hr', hh'⟩ := ht
  have HC := hid hc
  have HR := hid hr
  have HH := hid (heads_low hh)
  have HC' := hid hc'
  have HR' := hid hr'
  have HH' := hid (heads_low hh')
  have HLEN : Hid (hs1.length + hs2.length ≤ 4096) := by rw [hh.1, hh'.1]; exact hl
  obtain ⟨pc, capc, rfl, -⟩ := hc
  obtain ⟨pr, capr, rfl, -⟩ := hr
  obtain ⟨pc', capc', rfl, -⟩ := hc'
  obtain ⟨pr', capr', rfl, -⟩ := hr'
  clear hl hh hh'
  generalize cs.length = nc at *
  generalize hnr : hs1.length = nr at *
  generalize ds.length = nc' at *
  generalize hnr' : hs2.length = nr' at *
  have HNR := hid hnr
  have HNR' := hid hnr'
  clear hnr hnr'
  have K0 := hid (b3_0 w (.cells #[.slice pc nc capc, .slice pr nr capr] 25) (.cells #[.slice pc' nc' capc', .slice pr' nr' capr'] 25) (.cells #[.slice none 0 0, .slice none 0 0] 25))
  have K1 := hid (b3_1 w (.cells #[.slice pc nc capc, .slice pr nr capr] 25) (.cells #[.slice pc' nc' capc', .slice pr' nr' capr'] 25) (.cells #[.slice none 0 0, .slice none 0 0] 25))
  have K2 := hid (b3_2 w (.cells #[.slice pc nc capc, .slice pr nr capr] 25) (.cells #[.slice pc' nc' capc', .slice pr' nr' capr'] 25) (.cells #[.slice none 0 0, .slice none 0 0] 25))
  have HB := hid (below_3 w (.cells #[.slice pc nc capc, .slice pr nr capr] 25) (.cells #[.slice pc' nc' capc', .slice pr' nr' capr'] 25) (.cells #[.slice none 0 0, .slice none 0 0] 25))
  generalize hch : checkV cs rs = ch
  have HCH := hid hch
  clear hch
  have M1 : Hid True := trivial
  have M2 : Hid True := trivial
  by_cases hz : ch = 0
  · subst hz
    generalize hch' : checkV ds qs = ch'
    have HCH' := hid hch'
    clear hch'
    by_cases hz' : ch' = 0
    · subst hz'
      have hE : unionE cs rs ds qs = if cs = ds then 0 else 20 := by unfold unionE; rw [HCH.out, HCH'.out, if_pos rfl, if_pos rfl]
      cases heq : decide (cs = ds) with
      | false =>
        have hkE : unionE cs rs ds qs = 20 := by rw [hE, if_neg (of_decide_eq_false heq)]
        have hkC : unionC cs rs ds qs = [] := by unfold unionC; rw [hkE, if_neg (by decide)]
        have hkR : unionR cs rs ds qs = [] := by unfold unionR; rw [hkE, if_neg (by decide)]
        rw [hkE, hkC, hkR]
        clear hE hkE hkC hkR
        go_enter Try.func23, Try.ntmps23
        go_wp2_with (first | (go_at_call 12; clear M1; refine (rcheck_is (HS.out.on HB.out) HCH.out).mono ?_; rintro e w1 ⟨rfl, hb1⟩; have HB1 := hid (below_on HB.out hb1); have K01 := hid (block_on K0.out hb1); have K11 := hid (block_on K1.out hb1); have KR := hid (block_on K2.out hb1); have kr := block_cell KR.out; have fr := frozen_no KR.out; have k11 := block_cell K11.out; clear hb1) | (go_at_call 12; clear M2; refine (rcheck_is (HT.out.on HB1.out) HCH'.out).mono ?_; rintro e w4 ⟨rfl, hb4⟩; have HB4 := hid (below_on HB1.out hb4); have K04 := hid (block_on K01.out hb4); have K14 := hid (block_on K11.out hb4); replace KR := hid (block_on KR.out hb4); clear kr fr k11 hb4; have kr := block_cell KR.out; have fr := frozen_no KR.out; have k04 := block_cell K04.out; have k14 := block_cell K14.out) | (go_at_call 39; refine (samecols_is (HC.out.on HB4.out) (HC'.out.on HB4.out) heq).mono ?_; rintro e w5 ⟨rfl, hb5⟩; have HB5 := hid (below_on HB4.out hb5); have K05 := hid (block_on K04.out hb5); have K15 := hid (block_on K14.out hb5); replace KR := hid (block_on KR.out hb5); clear kr fr k04 k14 hb5; have kr := block_cell KR.out; have fr := frozen_no KR.out))
        refine bodyPost_ret (v := .tuple #[.agg #[.slice none 0 0, .slice none 0 0], .int .i64 20]) ?_ rfl ⟨_, rfl, nil_tab _, below_set (below_set HB5.out (by omega)) (by omega)⟩
        have KF := Joins.block_setCell (i := 1) (Joins.block_setCell (i := 0) KR.out (.slice none 0 0)) (.slice none 0 0)
        clear kr fr
        generalize ((w5.setCell ⟨w.heap.size + 1 + 1, 0, none⟩ (.slice none 0 0)).setCell ⟨w.heap.size + 1 + 1, 1, none⟩ (.slice none 0 0)) = WF at KF ⊢
        have kcf := block_cell KF
        clear KF
        simp [results, Try.results23, go_sem, kcf]
      | true =>
        have hkE : unionE cs rs ds qs = 0 := by rw [hE, if_pos (of_decide_eq_true heq)]
        have hkC : unionC cs rs ds qs = cs := by unfold unionC; rw [hkE, if_pos rfl]
        have hkR : unionR cs rs ds qs = sortR (rs ++ qs) := by unfold unionR; rw [hkE, if_pos rfl]
        rw [hkE, hkC, hkR]
        clear hE hkE hkC hkR
        exact runion_ok HS0.out HT0.out HL0.out HCH HCH' heq
    · have hne : (ch' != 0) = true := by simpa using hz'
      have hkE : unionE cs rs ds qs = ch' := by unfold unionE; rw [HCH.out, HCH'.out, if_pos rfl, if_neg hz']
      have hkC : unionC cs rs ds qs = [] := by unfold unionC; rw [hkE, if_neg hz']
      have hkR : unionR cs rs ds qs = [] := by unfold unionR; rw [hkE, if_neg hz']
      rw [hkE, hkC, hkR]
      clear hkE hkC hkR hz'
      go_enter Try.func23, Try.ntmps23
      go_wp2_with (first | (go_at_call 12; clear M1; refine (rcheck_is (HS.out.on HB.out) HCH.out).mono ?_; rintro e w1 ⟨rfl, hb1⟩; have HB1 := hid (below_on HB.out hb1); have K01 := hid (block_on K0.out hb1); have K11 := hid (block_on K1.out hb1); have KR := hid (block_on K2.out hb1); have kr := block_cell KR.out; have fr := frozen_no KR.out; have k11 := block_cell K11.out; clear hb1) | (go_at_call 12; clear M2; refine (rcheck_is (HT.out.on HB1.out) HCH'.out).mono ?_; rintro e w4 ⟨rfl, hb4⟩; have HB4 := hid (below_on HB1.out hb4); have K04 := hid (block_on K01.out hb4); have K14 := hid (block_on K11.out hb4); replace KR := hid (block_on KR.out hb4); clear kr fr k11 hb4; have kr := block_cell KR.out; have fr := frozen_no KR.out; have k04 := block_cell K04.out; have k14 := block_cell K14.out))
      refine bodyPost_ret (v := .tuple #[.agg #[.slice none 0 0, .slice none 0 0], .int .i64 ch']) ?_ rfl ⟨_, rfl, nil_tab _, below_set (below_set HB4.out (by omega)) (by omega)⟩
      have KF := Joins.block_setCell (i := 1) (Joins.block_setCell (i := 0) KR.out (.slice none 0 0)) (.slice none 0 0)
      clear kr fr k04 k14
      generalize ((w4.setCell ⟨w.heap.size + 1 + 1, 0, none⟩ (.slice none 0 0)).setCell ⟨w.heap.size + 1 + 1, 1, none⟩ (.slice none 0 0)) = WF at KF ⊢
      have kcf := block_cell KF
      clear KF
      simp [results, Try.results23, go_sem, kcf]
  · have hne : (ch != 0) = true := by simpa using hz
    have hne' : (ch == 0) = false := by simpa using hz
    have hkE : unionE cs rs ds qs = ch := by unfold unionE; rw [HCH.out, if_neg hz]
    have hkC : unionC cs rs ds qs = [] := by unfold unionC; rw [hkE, if_neg hz]
    have hkR : unionR cs rs ds qs = [] := by unfold unionR; rw [hkE, if_neg hz]
    rw [hkE, hkC, hkR]
    clear hkE hkC hkR hz
    go_enter Try.func23, Try.ntmps23
    go_wp2_with (first | (go_at_call 12; clear M1; refine (rcheck_is (HS.out.on HB.out) HCH.out).mono ?_; rintro e w1 ⟨rfl, hb1⟩; have HB1 := hid (below_on HB.out hb1); have K01 := hid (block_on K0.out hb1); have K11 := hid (block_on K1.out hb1); have KR := hid (block_on K2.out hb1); have kr := block_cell KR.out; have fr := frozen_no KR.out; have k11 := block_cell K11.out; clear hb1))
    refine bodyPost_ret (v := .tuple #[.agg #[.slice none 0 0, .slice none 0 0], .int .i64 ch]) ?_ rfl ⟨_, rfl, nil_tab _, below_set (below_set HB1.out (by omega)) (by omega)⟩
    have KF := Joins.block_setCell (i := 1) (Joins.block_setCell (i := 0) KR.out (.slice none 0 0)) (.slice none 0 0)
    clear kr fr k11
    generalize ((w1.setCell ⟨w.heap.size + 1 + 1, 0, none⟩ (.slice none 0 0)).setCell ⟨w.heap.size + 1 + 1, 1, none⟩ (.slice none 0 0)) = WF at KF ⊢
    have kcf := block_cell KF
    clear KF
    simp [results, Try.results23, go_sem, kcf]
end Go.Proofs.Ytoadamimfhjoiaa
