/-
  What the reference's Canon returns, for every table.
  The reference's Align.
  The reference's Align.
-/
import Derived.Test.YtopjpkkidjlbeaaKW26
import Derived.Test.YtopjpkkidjlbeaaKW27
import Derived.Test.YtopjpkkidjlbeaaKW28
import Derived.Test.YtopjpkkidjlbeaaKW30
namespace Go.Proofs.Ytopjpkkidjlbeaa.TN
open Go.RowKit Go.Sort Go.Shelf

theorem row_low {w : World} {v : Value} {r : Rw} (h : RowAt w v r) : RowIn (fun b => b < w.heap.size) w v r := by
  obtain ⟨p, cap, hv, hc, hm, hx⟩ := h
  refine ⟨p, cap, hv, hc, hm, fun hne => ?_⟩
  obtain ⟨b, o, hp, hQ, hj⟩ := hx hne
  refine ⟨b, o, hp, ⟨?_, hQ.2⟩, hj⟩
  have h0 : 0 < r.length := List.length_pos_iff.2 hne
  exact block_lt_of_cell (hj 0 _ (get!_some h0) 0 _ rfl)
theorem heads_low {w : World} {hs : List Value} {rs : List Rw} (h : HeadsIn any w hs rs) : HeadsIn (fun b => b < w.heap.size) w hs rs := ⟨h.1, fun j x r h1 h2 => row_low (h.2 j x r h1 h2)⟩
theorem below_d (w : World) : Below w.heap.size w w.drew := (Below.refl _ w).drew
theorem below_ad (w : World) (x : Obj) : Below w.heap.size w (w.alloc x).drew := ((Below.refl _ w).alloc (Nat.le_refl _) x).drew
theorem made_d (w : World) : Own Cl.cells 2 57 w.heap.size (w.alloc (.cells #[] 57)).drew (.slice (some ⟨w.heap.size, 0, none⟩) 0 0) ([] : List Cl) := Own.made Cl.cells 2 57 w.heap.size w (Nat.le_refl _)
set_option maxRecDepth 100000 in
set_option maxHeartbeats 2000000 in
theorem rcanon_q {Q : Nat → Prop} {c r : Value} {cs : List Cl} {hs : List Value} {rs : List Rw} {w : World} (hq : ∀ b, Q b → b < w.heap.size) (hc : ColsAt w c cs) (hr : SlAt any one 1 w r hs) (hh : HeadsIn Q w hs rs) :
    Calls Try.prog 24 #[.agg #[c, r]] w fun e w' => ∃ c' r' hs', e = .returned (.agg #[c', r']) ∧ SlAt (fun b => w.heap.size ≤ b) Cl.cells 2 w' c' cs ∧ SlAt (fun b => w.heap.size ≤ b) one 1 w' r' hs' ∧ HeadsIn Q w' hs' (sortR rs) ∧ Below w.heap.size w w' := by
  have HC := hid hc
  have HR := hid hr
  have HH := hid hh
  obtain ⟨q, cap', rfl, -⟩ := hc
  obtain ⟨p, cap, rfl, -⟩ := hr
  clear hh
  generalize hnc : cs.length = nc at *
  generalize hnr : hs.length = nr at *
  have HNC := hid hnc
  clear hnc hnr
  go_enter Try.func24, Try.ntmps24
  go_wp2
  generalize hO0 : (Obj.cells #[.slice q nc cap', .slice p nr cap] 28 (0, 0)) = O0 at *
  generalize hO1 : (Obj.cells #[.slice none 0 0, .slice none 0 0] 28 (0, 0)) = O1 at *
  have HB := hid (below_aa w O0 O1)
  have K0 := hid (alloc_blk1' w O0 O1)
  have K1 := hid (alloc_blk2' w O0 O1)
  have hsz : w.heap.size + 1 + 1 ≤ ((w.alloc O0).alloc O1).heap.size := by simp
  generalize ((w.alloc O0).alloc O1) = W at *
  subst hO0 hO1
  have k0 := block_cell K0.out
  have l0 := lt_of_block K0.out
  have ka : ∀ (A : Obj) (j : Nat), (W.alloc A).cell? ⟨w.heap.size, j, none⟩ = (#[.slice q nc cap', .slice p nr cap] : Array Value)[j]? := fun A j => block_cell (block_on K0.out ((Below.refl _ W).alloc (Nat.le_refl _) A)) j
  have N1 : Hid True := trivial
  have N2 : Hid True := trivial
  have HBD := hid (SlAt.bound HC.out)
  have hWw : w.heap.size ≤ W.heap.size := HB.out.size
  go_region_law (first
    | (have N1' := N1; refine step_app elem45 cl_len (fun x _ => cl_cells x) rfl (.tmp 3) (.tmp 5) rfl (by simp [Act.eval]; try rfl) (by simp [Act.eval]; try rfl) (made_d W) (SlAt.on HC.out (below_on HB.out (below_ad W _))) (by simpa using HBD.out) (by simp) ?_; intro v2 w2 hown2 hb2 hg2; rw [List.nil_append] at hown2; obtain ⟨pc2, capc2, rfl, -⟩ := Own.sl hown2 cl_len HBD.out; rw [HNC.out] at hown2 ⊢; have HB2 := hid ((below_ad W _).trans hb2); have FC := hid (Own.sl hown2 cl_len HBD.out); have k02 := block_cell (block_on K0.out HB2.out); clear N2 hown2 hb2 hg2)
    | (have N2' := N2; refine step_call rfl (.tmp 8) 26 rfl (by simp [Act.eval]; try rfl) enters38 ?_; refine (sorted_any _ (Nat.le_refl _) (SlAt.on HR.out (by first | exact below_on HB.out (below_d _) | exact below_on HB.out (below_ad _ _))) (HeadsIn.on HH.out (by first | exact below_on HB.out (below_d _) | exact below_on HB.out (below_ad _ _)))).mono ?_; rintro e w1 ⟨v1, h1, rfl, hs1, hh1, hb1⟩; refine ⟨_, rfl, ?_⟩; obtain ⟨pr1, capr1, rfl, -⟩ := id hs1; have HS1 := hid hs1; have HH1 := hid hh1; have HBC := hid hb1; have HB1 : Hid (Below W.heap.size W w1) := (by first | exact below_on (below_d _) hb1 | exact below_on (below_ad _ _) hb1); have k01 := block_cell (block_on K0.out HB1.out); have l01 := lt_of_block (block_on K0.out HB1.out); clear N1 hs1 hh1 hb1)
    | (refine step_call rfl (.tmp 8) 26 rfl (by simp [Act.eval]; try rfl) enters38 ?_; refine (sorted_any _ (Nat.le_refl _) (SlAt.on HR.out (below_on HB.out HB2.out)) (HeadsIn.on HH.out (below_on HB.out HB2.out))).mono ?_; rintro e w1 ⟨v1, h1, rfl, hs1, hh1, hb1⟩; refine ⟨_, rfl, ?_⟩; obtain ⟨pr1, capr1, rfl, -⟩ := id hs1; have GC := hid (FC.out.on hb1); have GR := hid (hs1.imp (fun b hb => Nat.le_trans HB2.out.size hb)); have GH := hid hh1; have GB := hid (below_on HB2.out hb1); have KF := hid (block_on K1.out GB.out); have kf := block_cell KF.out; have ff := frozen_no KF.out; clear hs1 hh1 hb1)
    | (refine step_app elem45 cl_len (fun x _ => cl_cells x) rfl (.tmp 3) (.tmp 5) rfl (by simp [Act.eval]; try rfl) (by simp [Act.eval]; try rfl) (by first | exact (made_d W).on HBC.out | exact Own.made Cl.cells 2 57 W.heap.size w1 HB1.out.size) (SlAt.on HC.out (by first | exact below_on HB.out HB1.out | exact below_on HB.out (HB1.out.alloc HB1.out.size _))) (by simpa using HBD.out) (by first | exact HB1.out.size | (simp; exact Nat.le_trans HB1.out.size (Nat.le_succ _))) ?_; intro v2 w2 hown2 hb2 hg2; rw [List.nil_append] at hown2; obtain ⟨pc2, capc2, rfl, -⟩ := Own.sl hown2 cl_len HBD.out; rw [HNC.out] at hown2 ⊢; have GC := hid (Own.sl hown2 cl_len HBD.out); have GB : Hid (Below W.heap.size W w2) := (by first | exact HB1.out.trans hb2 | exact (HB1.out.alloc HB1.out.size _).trans hb2); have GH := hid (HeadsIn.onB (HeadsIn.on HH1.out (by first | exact Below.refl _ _ | exact (Below.refl _ _).alloc (Nat.le_refl _) _)) hb2 (fun b hb => Nat.lt_of_lt_of_le (hq b hb) hWw)); have GR : Hid (SlAt (fun b => W.heap.size ≤ b) one 1 w2 _ h1) := (by first | exact (SlAt.grown (HS1.out.on (Below.refl _ _)) (by decide) one_len hg2 (fun b hb hlt e => by simp [Value.ownBlock] at e; subst e; simp at hb)).imp (fun b hb => by simp at hb; omega) | exact (SlAt.grown ((SlAt.low HS1.out (by decide) one_len).on ((Below.refl _ _).alloc (Nat.le_refl _) _)) (by decide) one_len hg2 (fun b hb hlt e => by simp [Value.ownBlock] at e; omega)).imp (fun b hb => by simp at hb; omega)); have KF := hid (block_on K1.out GB.out); have kf := block_cell KF.out; have ff := frozen_no KF.out; clear hown2 hb2 hg2))
  all_goals
    go_wp2
    refine bodyPost_ret (v := .agg #[.slice pc2 nc capc2, .slice pr1 h1.length capr1]) ?_ rfl ⟨_, _, h1, rfl, ?_, ?_, ?_, ?_⟩
    · have KF2 := Joins.block_setCell (i := 1) (Joins.block_setCell (i := 0) KF.out (.slice pc2 nc capc2)) (.slice pr1 h1.length capr1)
      clear kf ff
      first
        | generalize ((w1.setCell ⟨w.heap.size + 1, 0, none⟩ (.slice pc2 nc capc2)).setCell ⟨w.heap.size + 1, 1, none⟩ (.slice pr1 h1.length capr1)) = WF at KF2 ⊢; have kcf := block_cell KF2; clear KF2; simp [results, Try.results24, go_sem, kcf]; done
        | generalize ((w2.setCell ⟨w.heap.size + 1, 0, none⟩ (.slice pc2 nc capc2)).setCell ⟨w.heap.size + 1, 1, none⟩ (.slice pr1 h1.length capr1)) = WF at KF2 ⊢; have kcf := block_cell KF2; clear KF2; simp [results, Try.results24, go_sem, kcf]; done
    · exact SlAt.imp (SlAt.set (fun b hb => by omega) (SlAt.set (fun b hb => by omega) GC.out)) (fun b hb => Nat.le_trans hWw hb)
    · exact SlAt.imp (SlAt.set (fun b hb => by omega) (SlAt.set (fun b hb => by omega) GR.out)) (fun b hb => Nat.le_trans hWw hb)
    · exact HeadsIn.set (fun b hb => by have := hq b hb; omega) (HeadsIn.set (fun b hb => by have := hq b hb; omega) GH.out)
    · exact below_set (below_set (below_on HB.out GB.out) (by omega)) (by omega)
theorem rcanon_any {v : Value} {cs : List Cl} {rs : List Rw} {w : World} (hv : TabAt w v cs rs) :
    Calls Try.prog 24 #[v] w fun e w' => ∃ v', e = .returned v' ∧ TabAt w' v' cs (sortR rs) ∧ Below w.heap.size w w' := by
  obtain ⟨c, r, rfl, hc, hs, hr, hh⟩ := hv
  refine (rcanon_q (fun b hb => hb) hc hr (heads_low hh)).mono ?_
  rintro e w' ⟨c', r', hs', rfl, h1, h2, h3, hb⟩
  exact ⟨_, rfl, ⟨c', r', rfl, h1.imp fun _ _ => trivial, hs', h2.imp fun _ _ => trivial, h3.imp fun _ _ => trivial⟩, hb⟩
end Go.Proofs.Ytopjpkkidjlbeaa.TN
namespace Go.Proofs.Ytopjpkkidjlbeaa.RO
open Go.RowKit Go.Joins Go.Sort

set_option maxRecDepth 100000 in
set_option maxHeartbeats 2000000 in
theorem down_any {n w : Int} (hn : InI n) (hw : 1 ≤ w ∧ w ≤ 9223372036854775807) (wo : World) : Calls Try.prog 55 #[.int .i64 n, .int .i64 w] wo fun e w' => e = .returned (.int .i64 (mulW n w)) ∧ w' = wo := by
  obtain ⟨n1, n2⟩ := hn
  obtain ⟨w1, w2⟩ := hw
  have hw0 : ¬ w = 0 := by omega
  obtain ⟨t1, t2⟩ := tmod_in (n := n) w1
  obtain ⟨z, hz⟩ : ∃ z, z = mulW n w := ⟨_, rfl⟩
  rw [← hz]
  have HZ := hid hz
  clear hz
  by_cases h1 : n.tmod w < 0
  · have e1 := hid (tmod_neg w1 h1)
    obtain ⟨r, hr⟩ : ∃ r, n.tmod w + w = r := ⟨_, rfl⟩
    have HR := hid hr
    by_cases h2 : n < -9223372036854775808 + r
    · have h3 : z = n := by rw [HZ.out]; unfold mulW; rw [e1.out, HR.out, if_pos h2]
      subst h3
      go_enter Try.func55, Try.ntmps55
      go_wp2
      all_goals (go_ret; exact ⟨rfl, rfl⟩)
    · have h3 : z = n - r := by rw [HZ.out]; unfold mulW; rw [e1.out, HR.out, if_neg h2]
      subst h3
      go_enter Try.func55, Try.ntmps55
      go_wp2
      all_goals (go_ret; exact ⟨rfl, rfl⟩)
  · have e1 := hid (tmod_pos w1 h1)
    by_cases h2 : n < -9223372036854775808 + n.tmod w
    · have h3 : z = n := by rw [HZ.out]; unfold mulW; rw [e1.out, if_pos h2]
      subst h3
      go_enter Try.func55, Try.ntmps55
      go_wp2
      all_goals (go_ret; exact ⟨rfl, rfl⟩)
    · have h3 : z = n - n.tmod w := by rw [HZ.out]; unfold mulW; rw [e1.out, if_neg h2]
      subst h3
      go_enter Try.func55, Try.ntmps55
      go_wp2
      all_goals (go_ret; exact ⟨rfl, rfl⟩)
theorem enters_down : ∀ args w, (callFunc 55 args).run Try.prog w = .ok (.enter 55 args) w := enters_of Try.func55 (by kernel_rfl) rfl
/- A table that is told beside an error's number, wherever it lies. -/
def TabR (b : Bool) (w' : World) (v : Value) (cs : List TN.Cl) (rs : List TN.Rw) : Prop := TN.TabAt w' v (if b then cs else []) (if b then rs else [])
theorem TabR.no {w' : World} (cs : List TN.Cl) (rs : List TN.Rw) : TabR false w' (.agg #[.slice none 0 0, .slice none 0 0]) cs rs := ⟨_, _, rfl, TN.SlAt.nil _ _ _ _, [], TN.SlAt.nil _ _ _ _, rfl, fun j h r h1 => by simp at h1⟩
end Go.Proofs.Ytopjpkkidjlbeaa.RO
namespace Go.Proofs.Ytopjpkkidjlbeaa.RO
open Go.RowKit Go.Joins Go.Sort

set_option maxRecDepth 100000 in
set_option maxHeartbeats 4000000 in
theorem ralign_check {tv : Value} {cs : List TN.Cl} {rs : List TN.Rw} {n : Int} {w : World} (ht : TN.TabAt w tv cs rs) (hrl : rs.length ≤ 1000000) (hck : ¬ TN.checkV cs rs = 0) : Calls Try.prog 30 #[tv, .int .i64 n] w fun e w' => ∃ v', e = .returned (.tuple #[v', .int .i64 (runE cs rs (alB cs n))]) ∧ FormT v' ∧ TabR (okE cs rs (alB cs n)) w' v' cs (TN.sortR (rs.map (alR (TN.findC cs tmB).toNat n))) ∧ Below w.heap.size w w' := by
  have hE : runE cs rs (alB cs n) = TN.checkV cs rs := by unfold runE; rw [if_neg hck]
  have hO : okE cs rs (alB cs n) = false := by unfold okE; rw [decide_eq_false hck]; rfl
  have HE := hid hE
  have HO := hid hO
  clear hE hO
  obtain ⟨c, rv, rfl, hc, hs, hr, hh⟩ := ht
  have HT := hid (show TN.TabAt w (.agg #[c, rv]) cs rs from ⟨c, rv, rfl, hc, hs, hr, hh⟩)
  have HC := hid hc
  have HR := hid hr
  have HH := hid hh
  have hml : hs.length ≤ 1000000 := by rw [hh.1]; exact hrl
  obtain ⟨pc, cc, rfl, -⟩ := id hc
  obtain ⟨pr, cr, rfl, -⟩ := id hr
  clear hc hr hh
  generalize hncs : cs.length = nc at *
  generalize hk : hs.length = m at *
  have HNC := hid hncs
  have HM := hid hk
  have mI : (m : Int) ≤ 1000000 := by omega
  obtain ⟨W, hW⟩ : ∃ W, W = (w.alloc (.cells #[.slice pc nc cc, .slice pr m cr] 28)).alloc (.cells #[.slice none 0 0, .slice none 0 0] 28) := ⟨_, rfl⟩
  have k0 := block_on (alloc_block w (.cells #[.slice pc nc cc, .slice pr m cr] 28)) ((Below.refl _ _).alloc (Nat.le_refl _) (.cells #[.slice none 0 0, .slice none 0 0] 28))
  have k1 := TN.alloc_blk2 w (.cells #[.slice pc nc cc, .slice pr m cr] 28) (.cells #[.slice none 0 0, .slice none 0 0] 28)
  have hb : Below w.heap.size w W := by rw [hW]; exact ((Below.refl w.heap.size w).alloc (Nat.le_refl _) _).alloc (by simp) _
  rw [← hW] at k0 k1
  have K0 := hid k0
  have K1 := hid k1
  have HB := hid hb
  have HW := hid hW
  have y0 := block_cell k0
  have HCK := hid (fun W (hb : Below w.heap.size w W) => TN.rcheck_any (HT.out.on hb))
  generalize hz : TN.checkV cs rs = z at *
  have HZ0 := hid hz
  clear hW k0 k1 hb hncs hk hz
  go_enter Try.func30, Try.ntmps30
  go_upto_region 1 with fail
  rw [← HW.out]
  clear HW
  have zb : (z != 0) = true := by simp; exact hck
  go_wp2_with (first | (go_at_call 26; refine (HCK.out W HB.out).mono ?_; rintro e w1 ⟨rfl, hb⟩; have HB1 := hid hb; have K01 := hid (block_on K0.out hb); have K11 := hid (block_on K1.out hb); have k11 := block_cell K11.out; have f11 := block_frozen K11.out; have y01 := block_cell K01.out; clear hb))
  refine bodyPost_ret (v := .tuple #[.agg #[.slice none 0 0, .slice none 0 0], .int .i64 z]) ?hv1 rfl ⟨_, by rw [HE.out], ⟨_, _, _, _, _, _, rfl⟩, by rw [HO.out]; exact TabR.no _ _, TN.below_set (TN.below_set (TN.below_on HB.out HB1.out) (by omega)) (by omega)⟩
  case hv1 =>
    have KF := block_set (block_set K11.out 0 (.slice none 0 0)) 1 (.slice none 0 0)
    clear k11 f11
    generalize ((w1.setCell ⟨w.heap.size + 1, 0, none⟩ (.slice none 0 0)).setCell ⟨w.heap.size + 1, 1, none⟩ (.slice none 0 0)) = WF at KF ⊢
    have kcf := block_cell KF
    clear KF
    simp [results, Try.results30, go_sem, kcf]
set_option maxRecDepth 100000 in
set_option maxHeartbeats 8000000 in
theorem ralign_bad {tv : Value} {cs : List TN.Cl} {rs : List TN.Rw} {n : Int} {w : World} (ht : TN.TabAt w tv cs rs) (hrl : rs.length ≤ 1000000) (hck : TN.checkV cs rs = 0) (hbad : alB cs n = false) : Calls Try.prog 30 #[tv, .int .i64 n] w fun e w' => ∃ v', e = .returned (.tuple #[v', .int .i64 (runE cs rs (alB cs n))]) ∧ FormT v' ∧ TabR (okE cs rs (alB cs n)) w' v' cs (TN.sortR (rs.map (alR (TN.findC cs tmB).toNat n))) ∧ Below w.heap.size w w' := by
  obtain ⟨c, rv, rfl, hc, hs, hr, hh⟩ := ht
  have HT := hid (show TN.TabAt w (.agg #[c, rv]) cs rs from ⟨c, rv, rfl, hc, hs, hr, hh⟩)
  have HC := hid hc
  have HR := hid hr
  have HH := hid hh
  have hml : hs.length ≤ 1000000 := by rw [hh.1]; exact hrl
  obtain ⟨pc, cc, rfl, -⟩ := id hc
  obtain ⟨pr, cr, rfl, -⟩ := id hr
  clear hc hr hh
  generalize hncs : cs.length = nc at *
  generalize hk : hs.length = m at *
  have HNC := hid hncs
  have HM := hid hk
  have mI : (m : Int) ≤ 1000000 := by omega
  obtain ⟨W, hW⟩ : ∃ W, W = (w.alloc (.cells #[.slice pc nc cc, .slice pr m cr] 28)).alloc (.cells #[.slice none 0 0, .slice none 0 0] 28) := ⟨_, rfl⟩
  have k0 := block_on (alloc_block w (.cells #[.slice pc nc cc, .slice pr m cr] 28)) ((Below.refl _ _).alloc (Nat.le_refl _) (.cells #[.slice none 0 0, .slice none 0 0] 28))
  have k1 := TN.alloc_blk2 w (.cells #[.slice pc nc cc, .slice pr m cr] 28) (.cells #[.slice none 0 0, .slice none 0 0] 28)
  have hb : Below w.heap.size w W := by rw [hW]; exact ((Below.refl w.heap.size w).alloc (Nat.le_refl _) _).alloc (by simp) _
  rw [← hW] at k0 k1
  have K0 := hid k0
  have K1 := hid k1
  have HB := hid hb
  have HW := hid hW
  have y0 := block_cell k0
  have HCK := hid (fun W (hb : Below w.heap.size w W) => TN.rcheck_any (HT.out.on hb))
  generalize hz : TN.checkV cs rs = z at *
  have HZ0 := hid hz
  clear hW k0 k1 hb hncs hk hz
  go_enter Try.func30, Try.ntmps30
  go_upto_region 1 with fail
  rw [← HW.out]
  clear HW
  have zb : (z != 0) = false := by simp [hck]
  go_upto_region 5 with (first
    | (go_at_call 26; refine (HCK.out W HB.out).mono ?_; rintro e w1 ⟨rfl, hb⟩; have HB1 := hid hb; have K01 := hid (block_on K0.out hb); have K11 := hid (block_on K1.out hb); have k11 := block_cell K11.out; have f11 := block_frozen K11.out; have y01 := block_cell K01.out; clear hb)
    | (go_at_call 38; refine (TN.rfind_any (nm := tmB) (HC.out.on (TN.below_on HB.out HB1.out))).mono ?_; rintro e w2 ⟨rfl, hb⟩; have HB2 := hid (TN.below_on (TN.below_on HB.out HB1.out) hb); have K02 := hid (block_on K01.out hb); have K12 := hid (block_on K11.out hb); have y02 := block_cell K02.out; clear k11 f11 y01 hb))
  have k11 := block_cell K12.out
  have f11 := block_frozen K12.out
  have HZl := hid (TN.findC_lt cs tmB)
  have HTB2 : Hid (alB cs n = decide (1 ≤ n ∧ 0 ≤ TN.findC cs tmB ∧ kdOf cs (TN.findC cs tmB) = 1)) := rfl
  generalize hzz : TN.findC cs tmB = q at *
  have HZE := hid hzz
  have HCo := hid (HC.out.on HB2.out)
  clear hzz
  by_cases c1 : 1 ≤ n
  case neg =>
    have d1 : decide (n < 1) = true := decide_eq_true (by omega)
    have c1b : n < 1 := by omega
    have hE : runE cs rs false = 1 := by unfold runE; rw [HZ0.out, if_pos hck]; rfl
    have hO : okE cs rs false = false := by unfold okE; rw [HZ0.out]; simp
    have HE := hid hE
    have HO := hid hO
    clear hE hO
    go_wp2_with fail
    refine bodyPost_ret (v := .tuple #[.agg #[.slice none 0 0, .slice none 0 0], .int .i64 1]) ?hv2 rfl ⟨_, by rw [HE.out], ⟨_, _, _, _, _, _, rfl⟩, by rw [HO.out]; exact TabR.no _ _, TN.below_set (TN.below_set (HB2.out) (by omega)) (by omega)⟩
    case hv2 =>
      have KF := block_set (block_set K12.out 0 (.slice none 0 0)) 1 (.slice none 0 0)
      clear k11 f11
      generalize ((w2.setCell ⟨w.heap.size + 1, 0, none⟩ (.slice none 0 0)).setCell ⟨w.heap.size + 1, 1, none⟩ (.slice none 0 0)) = WF at KF ⊢
      have kcf := block_cell KF
      clear KF
      simp [results, Try.results30, go_sem, kcf]
  have d1 : decide (n < 1) = false := decide_eq_false (by omega)
  have c1b : ¬ n < 1 := by omega
  by_cases c3 : 0 ≤ q
  case neg =>
    have d3 : decide (q < 0) = true := decide_eq_true (by omega)
    have c3b : q < 0 := by omega
    have hE : runE cs rs false = 1 := by unfold runE; rw [HZ0.out, if_pos hck]; rfl
    have hO : okE cs rs false = false := by unfold okE; rw [HZ0.out]; simp
    have HE := hid hE
    have HO := hid hO
    clear hE hO
    go_wp2_with fail
    refine bodyPost_ret (v := .tuple #[.agg #[.slice none 0 0, .slice none 0 0], .int .i64 1]) ?hv3 rfl ⟨_, by rw [HE.out], ⟨_, _, _, _, _, _, rfl⟩, by rw [HO.out]; exact TabR.no _ _, TN.below_set (TN.below_set (HB2.out) (by omega)) (by omega)⟩
    case hv3 =>
      have KF := block_set (block_set K12.out 0 (.slice none 0 0)) 1 (.slice none 0 0)
      clear k11 f11
      generalize ((w2.setCell ⟨w.heap.size + 1, 0, none⟩ (.slice none 0 0)).setCell ⟨w.heap.size + 1, 1, none⟩ (.slice none 0 0)) = WF at KF ⊢
      have kcf := block_cell KF
      clear KF
      simp [results, Try.results30, go_sem, kcf]
  have d3 : decide (q < 0) = false := decide_eq_false (by omega)
  have c3b : ¬ q < 0 := by omega
  obtain ⟨p, hp⟩ : ∃ p : Nat, q = p := ⟨q.toNat, by omega⟩
  have HPz := hid hp
  have hpl : p < cs.length := by have := HZl.out; omega
  have hpn : (p : Int) < nc := by have := HNC.out; omega
  obtain ⟨bc, oc, rfl, cell1⟩ : ∃ b o, pc = some ⟨b, o, none⟩ ∧ w2.cell? ⟨b, o + p * 2 + 1, none⟩ = some (.int .i64 (kdOf cs q)) := by
    obtain ⟨p', c', e', -, -, hx⟩ := HCo.out
    obtain ⟨b, o, hpp, -, hj⟩ := hx (by intro e; rw [e] at hpl; simp at hpl)
    subst hpp
    cases e'
    refine ⟨b, o, rfl, ?_⟩
    have := (TN.col_cells (hj p cs[p] (List.getElem?_eq_getElem hpl))).2
    unfold kdOf
    rw [HPz.out, Int.toNat_natCast, List.getD_eq_getElem?_getD, List.getElem?_eq_getElem hpl]
    exact this
  have ncI : (nc : Int) ≤ 9223372036854775807 := by
    obtain ⟨p', c', e', -, hm, -⟩ := HCo.out
    have := HNC.out
    unfold maxLen at hm
    omega
  subst hp
  have p0 : (0 : Int) ≤ p := by omega
  generalize kdOf cs p = kd at *
  have c4 : ¬ kd = 1 := fun e => by rw [HTB2.out, decide_eq_true ⟨c1, p0, e⟩] at hbad; cases hbad
  have c4b : (kd != 1) = true := by simp [c4]
  have hE : runE cs rs false = 1 := by unfold runE; rw [HZ0.out, if_pos hck]; rfl
  have hO : okE cs rs false = false := by unfold okE; rw [HZ0.out]; simp
  have HE := hid hE
  have HO := hid hO
  clear hE hO
  go_wp2_with fail
  refine bodyPost_ret (v := .tuple #[.agg #[.slice none 0 0, .slice none 0 0], .int .i64 1]) ?hv4 rfl ⟨_, by rw [HE.out], ⟨_, _, _, _, _, _, rfl⟩, by rw [HO.out]; exact TabR.no _ _, TN.below_set (TN.below_set (HB2.out) (by omega)) (by omega)⟩
  case hv4 =>
    have KF := block_set (block_set K12.out 0 (.slice none 0 0)) 1 (.slice none 0 0)
    clear k11 f11
    generalize ((w2.setCell ⟨w.heap.size + 1, 0, none⟩ (.slice none 0 0)).setCell ⟨w.heap.size + 1, 1, none⟩ (.slice none 0 0)) = WF at KF ⊢
    have kcf := block_cell KF
    clear KF
    simp [results, Try.results30, go_sem, kcf]
end Go.Proofs.Ytopjpkkidjlbeaa.RO
