/-
  What the reference's Canon returns, for every table.
-/
import Derived.Test.YtlbjbkhcnafhcaaGreatP44TScan
import Derived.Test.YtlbjbkhcnafhcaaGreatQSmall
namespace Go.Proofs.YtlbjbkhcnafhcaaGreat
open Go.RowKit Go.Sort Go.Shelf

theorem row_low {w : World} {v : Value} {r : Rw} (h : RowAt w v r) : RowIn (fun b => b < w.heap.size) w v r := by
  obtain ⟨p, cap, hv, hc, hm, hx⟩ := h
  refine ⟨p, cap, hv, hc, hm, fun hne => ?_⟩
  obtain ⟨b, o, hp, hQ, hj⟩ := hx hne
  refine ⟨b, o, hp, ⟨?_, hQ.2⟩, hj⟩
  have h0 : 0 < r.length := List.length_pos_iff.2 hne
  exact block_lt_of_cell (hj 0 _ (get!_some h0) 0 _ rfl)
theorem heads_low {w : World} {hs : List Value} {rs : List Rw} (h : HeadsIn any w hs rs) : HeadsIn (fun b => b < w.heap.size) w hs rs := ⟨h.1, fun j x r h1 h2 => row_low (h.2 j x r h1 h2)⟩
theorem below_d (w : World) : Below w.heap.size w w.drew := (Below.refl _ w).drew
theorem below_ad (w : World) (x : Obj) : Below w.heap.size w (w.alloc x).drew := ((Below.refl _ w).alloc (Nat.le_refl _) x).drew
theorem made_d (w : World) : Own Cl.cells 2 90 w.heap.size (w.alloc (.cells #[] 90)).drew (.slice (some ⟨w.heap.size, 0, none⟩) 0 0) ([] : List Cl) := Own.made Cl.cells 2 90 w.heap.size w (Nat.le_refl _)
set_option maxRecDepth 100000 in
set_option maxHeartbeats 2000000 in
theorem rcanon_q {Q : Nat → Prop} {c r : Value} {cs : List Cl} {hs : List Value} {rs : List Rw} {w : World} (hq : ∀ b, Q b → b < w.heap.size) (hc : ColsAt w c cs) (hr : SlAt any one 1 w r hs) (hh : HeadsIn Q w hs rs) :
    Calls Tryz.prog 40 #[.agg #[c, r]] w fun e w' => ∃ c' r' hs', e = .returned (.agg #[c', r']) ∧ SlAt (fun b => w.heap.size ≤ b) Cl.cells 2 w' c' cs ∧ SlAt (fun b => w.heap.size ≤ b) one 1 w' r' hs' ∧ HeadsIn Q w' hs' (sortR rs) ∧ Below w.heap.size w w' := by
  have HC := hid hc
  have HR := hid hr
  have HH := hid hh
  obtain ⟨q, cap', rfl, -⟩ := hc
  obtain ⟨p, cap, rfl, -⟩ := hr
  clear hh
  generalize hnc : cs.length = nc at *
  generalize hnr : hs.length = nr at *
  have HNC := hid hnc
  clear hnc hnr
  go_enter Tryz.func40, Tryz.ntmps40
  go_wp2
  generalize hO0 : (Obj.cells #[.slice q nc cap', .slice p nr cap] 44 (0, 0)) = O0 at *
  generalize hO1 : (Obj.cells #[.slice none 0 0, .slice none 0 0] 44 (0, 0)) = O1 at *
  have HB := hid (below_aa w O0 O1)
  have K0 := hid (alloc_blk1' w O0 O1)
  have K1 := hid (alloc_blk2' w O0 O1)
  have hsz : w.heap.size + 1 + 1 ≤ ((w.alloc O0).alloc O1).heap.size := by simp
  generalize ((w.alloc O0).alloc O1) = W at *
  subst hO0 hO1
  have k0 := block_cell K0.out
  have l0 := lt_of_block K0.out
  have ka : ∀ (A : Obj) (j : Nat), (W.alloc A).cell? ⟨w.heap.size, j, none⟩ = (#[.slice q nc cap', .slice p nr cap] : Array Value)[j]? := fun A j => block_cell (block_on K0.out ((Below.refl _ W).alloc (Nat.le_refl _) A)) j
  have N1 : Hid True := trivial
  have N2 : Hid True := trivial
  have HBD := hid (SlAt.bound HC.out)
  have hWw : w.heap.size ≤ W.heap.size := HB.out.size
  go_region_law (first
    | (have N1' := N1; refine step_app elem45 cl_len (fun x _ => cl_cells x) rfl (.tmp 3) (.tmp 5) rfl (by simp [Act.eval]; try rfl) (by simp [Act.eval]; try rfl) (made_d W) (SlAt.on HC.out (below_on HB.out (below_ad W _))) (by simpa using HBD.out) (by simp) ?_; intro v2 w2 hown2 hb2 hg2; rw [List.nil_append] at hown2; obtain ⟨pc2, capc2, rfl, -⟩ := Own.sl hown2 cl_len HBD.out; rw [HNC.out] at hown2 ⊢; have HB2 := hid ((below_ad W _).trans hb2); have FC := hid (Own.sl hown2 cl_len HBD.out); have k02 := block_cell (block_on K0.out HB2.out); clear N2 hown2 hb2 hg2)
    | (have N2' := N2; refine step_call rfl (.tmp 8) 42 rfl (by simp [Act.eval]; try rfl) enters38 ?_; refine (sorted_any _ (Nat.le_refl _) (SlAt.on HR.out (by first | exact below_on HB.out (below_d _) | exact below_on HB.out (below_ad _ _))) (HeadsIn.on HH.out (by first | exact below_on HB.out (below_d _) | exact below_on HB.out (below_ad _ _)))).mono ?_; rintro e w1 ⟨v1, h1, rfl, hs1, hh1, hb1⟩; refine ⟨_, rfl, ?_⟩; obtain ⟨pr1, capr1, rfl, -⟩ := id hs1; have HS1 := hid hs1; have HH1 := hid hh1; have HBC := hid hb1; have HB1 : Hid (Below W.heap.size W w1) := (by first | exact below_on (below_d _) hb1 | exact below_on (below_ad _ _) hb1); have k01 := block_cell (block_on K0.out HB1.out); have l01 := lt_of_block (block_on K0.out HB1.out); clear N1 hs1 hh1 hb1)
    | (refine step_call rfl (.tmp 8) 42 rfl (by simp [Act.eval]; try rfl) enters38 ?_; refine (sorted_any _ (Nat.le_refl _) (SlAt.on HR.out (below_on HB.out HB2.out)) (HeadsIn.on HH.out (below_on HB.out HB2.out))).mono ?_; rintro e w1 ⟨v1, h1, rfl, hs1, hh1, hb1⟩; refine ⟨_, rfl, ?_⟩; obtain ⟨pr1, capr1, rfl, -⟩ := id hs1; have GC := hid (FC.out.on hb1); have GR := hid (hs1.imp (fun b hb => Nat.le_trans HB2.out.size hb)); have GH := hid hh1; have GB := hid (below_on HB2.out hb1); have KF := hid (block_on K1.out GB.out); have kf := block_cell KF.out; have ff := frozen_no KF.out; clear hs1 hh1 hb1)
    | (refine step_app elem45 cl_len (fun x _ => cl_cells x) rfl (.tmp 3) (.tmp 5) rfl (by simp [Act.eval]; try rfl) (by simp [Act.eval]; try rfl) (by first | exact (made_d W).on HBC.out | exact Own.made Cl.cells 2 90 W.heap.size w1 HB1.out.size) (SlAt.on HC.out (by first | exact below_on HB.out HB1.out | exact below_on HB.out (HB1.out.alloc HB1.out.size _))) (by simpa using HBD.out) (by first | exact HB1.out.size | (simp; exact Nat.le_trans HB1.out.size (Nat.le_succ _))) ?_; intro v2 w2 hown2 hb2 hg2; rw [List.nil_append] at hown2; obtain ⟨pc2, capc2, rfl, -⟩ := Own.sl hown2 cl_len HBD.out; rw [HNC.out] at hown2 ⊢; have GC := hid (Own.sl hown2 cl_len HBD.out); have GB : Hid (Below W.heap.size W w2) := (by first | exact HB1.out.trans hb2 | exact (HB1.out.alloc HB1.out.size _).trans hb2); have GH := hid (HeadsIn.onB (HeadsIn.on HH1.out (by first | exact Below.refl _ _ | exact (Below.refl _ _).alloc (Nat.le_refl _) _)) hb2 (fun b hb => Nat.lt_of_lt_of_le (hq b hb) hWw)); have GR : Hid (SlAt (fun b => W.heap.size ≤ b) one 1 w2 _ h1) := (by first | exact (SlAt.grown (HS1.out.on (Below.refl _ _)) (by decide) one_len hg2 (fun b hb hlt e => by simp [Value.ownBlock] at e; subst e; simp at hb)).imp (fun b hb => by simp at hb; omega) | exact (SlAt.grown ((SlAt.low HS1.out (by decide) one_len).on ((Below.refl _ _).alloc (Nat.le_refl _) _)) (by decide) one_len hg2 (fun b hb hlt e => by simp [Value.ownBlock] at e; omega)).imp (fun b hb => by simp at hb; omega)); have KF := hid (block_on K1.out GB.out); have kf := block_cell KF.out; have ff := frozen_no KF.out; clear hown2 hb2 hg2))
  all_goals
    go_wp2
    refine bodyPost_ret (v := .agg #[.slice pc2 nc capc2, .slice pr1 h1.length capr1]) ?_ rfl ⟨_, _, h1, rfl, ?_, ?_, ?_, ?_⟩
    · have KF2 := Joins.block_setCell (i := 1) (Joins.block_setCell (i := 0) KF.out (.slice pc2 nc capc2)) (.slice pr1 h1.length capr1)
      clear kf ff
      first
        | generalize ((w1.setCell ⟨w.heap.size + 1, 0, none⟩ (.slice pc2 nc capc2)).setCell ⟨w.heap.size + 1, 1, none⟩ (.slice pr1 h1.length capr1)) = WF at KF2 ⊢; have kcf := block_cell KF2; clear KF2; simp [results, Tryz.results40, go_sem, kcf]; done
        | generalize ((w2.setCell ⟨w.heap.size + 1, 0, none⟩ (.slice pc2 nc capc2)).setCell ⟨w.heap.size + 1, 1, none⟩ (.slice pr1 h1.length capr1)) = WF at KF2 ⊢; have kcf := block_cell KF2; clear KF2; simp [results, Tryz.results40, go_sem, kcf]; done
    · exact SlAt.imp (SlAt.set (fun b hb => by omega) (SlAt.set (fun b hb => by omega) GC.out)) (fun b hb => Nat.le_trans hWw hb)
    · exact SlAt.imp (SlAt.set (fun b hb => by omega) (SlAt.set (fun b hb => by omega) GR.out)) (fun b hb => Nat.le_trans hWw hb)
    · exact HeadsIn.set (fun b hb => by have := hq b hb; omega) (HeadsIn.set (fun b hb => by have := hq b hb; omega) GH.out)
    · exact below_set (below_set (below_on HB.out GB.out) (by omega)) (by omega)
theorem rcanon_any {v : Value} {cs : List Cl} {rs : List Rw} {w : World} (hv : TabAt w v cs rs) :
    Calls Tryz.prog 40 #[v] w fun e w' => ∃ v', e = .returned v' ∧ TabAt w' v' cs (sortR rs) ∧ Below w.heap.size w w' := by
  obtain ⟨c, r, rfl, hc, hs, hr, hh⟩ := hv
  refine (rcanon_q (fun b hb => hb) hc hr (heads_low hh)).mono ?_
  rintro e w' ⟨c', r', hs', rfl, h1, h2, h3, hb⟩
  exact ⟨_, rfl, ⟨c', r', rfl, h1.imp fun _ _ => trivial, hs', h2.imp fun _ _ => trivial, h3.imp fun _ _ => trivial⟩, hb⟩
end Go.Proofs.YtlbjbkhcnafhcaaGreat
