/-
  Same of what is the same.
-/
import Derived.Test.YtomnjckbgmbgmaaGreatDoorQSameN
import Derived.Test.YtomnjckbgmbgmaaGreatDoorQShn
namespace Go.Proofs.YtomnjckbgmbgmaaGreatDoor
open Go.RowKit Go.Joins Go.Sort Go.Maps Go.Shelf

theorem step_call2 {ops : Array Oper} {o : Oper} {a : Act} {w : World} {K : Act → World → Prop} {Q : Exit → Act → World → Prop} {E : Prop} {f : FuncId} {v v2 : Value} (hgd : o.guard = none) (x y : Operand) (t t2 : TypeId)
    (ho : o.op = .call { callee := .value (.func f), args := #[x, y], argTypes := #[t, t2] }) (hx : a.eval x = v) (hy : a.eval y = v2) (hen : ∀ args w, (callFunc f args).run Tryz.prog w = .ok (.enter f args) w)
    (hc : Calls Tryz.prog f #[v, v2] w fun e w' => ∃ u, e = .returned u ∧ K (a.put o.dst u) w') : if Region.wanted o (yielded ops a.tmps) = true then Oper.wp Tryz.prog o a w K Q else E := by
  have hw : Region.wanted o (yielded ops a.tmps) = true := by simp [Region.wanted, hgd]
  rw [if_pos hw]
  unfold Oper.wp
  have hr : (execOp a.eval o).run Tryz.prog w = .ok (.enter f #[v, v2]) w := by
    simp [execOp, ho, resolve, invoke, hen, go_sem]
    rw [← hx, ← hy]
    cases x <;> cases y <;> simp [Act.eval]
  rw [hr, Oper.upon_enter]
  refine hc.mono ?_
  rintro e w' ⟨u, rfl, hk⟩
  exact hk
/- What is read while two nodes are held against one another. -/
def S4 (b1 b2 g1 g2 k : Nat) (v1 v2 : Value) (q1 q2 : Nd) (W : World) : Prop := W.cell? ⟨b1, 0, none⟩ = some v1 ∧ W.cell? ⟨b2, 0, none⟩ = some v2 ∧ W.rangeAt g1 (k * 19) q1.cells ∧ W.rangeAt g2 (k * 19) q2.cells
theorem S4.on {b1 b2 g1 g2 k : Nat} {v1 v2 : Value} {q1 q2 : Nd} {W W' : World} (h : S4 b1 b2 g1 g2 k v1 v2 q1 q2 W) (hb : Below W.heap.size W W') : S4 b1 b2 g1 g2 k v1 v2 q1 q2 W' :=
  ⟨(hb.cell (p := ⟨b1, 0, none⟩) (block_lt_of_cell h.1)).trans h.1, (hb.cell (p := ⟨b2, 0, none⟩) (block_lt_of_cell h.2.1)).trans h.2.1, fun j u hj => (hb.cell (p := ⟨g1, k * 19 + j, none⟩) (block_lt_of_cell (h.2.2.1 j u hj))).trans (h.2.2.1 j u hj), fun j u hj => (hb.cell (p := ⟨g2, k * 19 + j, none⟩) (block_lt_of_cell (h.2.2.2 j u hj))).trans (h.2.2.2 j u hj)⟩
theorem enters_sn : ∀ args w, (callFunc 27 args).run Tryz.prog w = .ok (.enter 27 args) w := enters_of Tryz.func27 (by kernel_rfl) rfl
set_option maxRecDepth 100000 in
set_option maxHeartbeats 2000000 in
theorem same_is {w : World} {n1 n2 : Nat} {v1 v2 : Value} {ns : List Np} (h1 : Nq n1 w v1 ns) (h2 : Nq n2 w v2 ns) : Calls Tryz.prog 13 #[.agg #[v1], .agg #[v2]] w fun e w' => e = .returned (.bool true) ∧ Below w.heap.size w w' := by
  obtain ⟨p1, c1, rfl, hc1, hc2⟩ := h1.len
  obtain ⟨p2, c2, rfl, hd1, hd2⟩ := h2.len
  unfold maxLen at hc2 hd2
  have HB : Hid (Below w.heap.size w ((w.alloc (.cells #[.slice p1 ns.length c1] 27)).alloc (.cells #[.slice p2 ns.length c2] 27))) := ((Below.refl _ _).alloc (Nat.le_refl _) _).alloc (by simp) _
  have HA := hid ((Kp.alloc (fun _ => False) (w.alloc (.cells #[.slice p1 ns.length c1] 27)) (.cells #[.slice p2 ns.length c2] 27)).blk (alloc_block w _) id)
  have hZ := alloc_block (w.alloc (.cells #[.slice p1 ns.length c1] 27)) (.cells #[.slice p2 ns.length c2] 27)
  rw [World.size_alloc] at hZ
  have HZ := hid hZ
  have k1 := block_cell HA.out
  have k2 := block_cell HZ.out
  generalize hW : ((w.alloc (.cells #[.slice p1 ns.length c1] 27)).alloc (.cells #[.slice p2 ns.length c2] 27)) = W at *
  have HW := hid hW
  have H1 := hid (h1.on HB.out)
  have H2 := hid (h2.on HB.out)
  clear hW hZ h1 h2
  have bn : ((ns.length : Int) != ns.length) = false := by simp
  have lI : (ns.length : Int) ≤ 9223372036854775807 := by omega
  go_enter Tryz.func13, Tryz.ntmps13
  go_upto_region 1 with fail
  rw [HW.out]
  go_wp2_with fail
  clear k1 k2
  go_loopw [5] (fun x wr => ∃ k : Nat, k ≤ ns.length ∧ x = .int .i64 k ∧ Hid (Below W.heap.size W wr)) (fun x _ => ns.length - (intOf x).toNat)
  case atStart => exact ⟨0, by omega, rfl, Below.refl _ _⟩
  case round =>
    obtain ⟨k, hk, rfl, HBr⟩ := hrel
    have k1 := block_cell (block_on HA.out HBr.out)
    have k2 := block_cell (block_on HZ.out HBr.out)
    by_cases hlt : k < ns.length
    · have hx := List.getElem?_eq_getElem hlt
      obtain ⟨g1, e1, hv1, -, -, hr1⟩ := (H1.out.on HBr.out).rows (by omega)
      obtain ⟨g2, e2, hv2, -, -, hr2⟩ := (H2.out.on HBr.out).rows (by omega)
      cases hv1
      cases hv2
      obtain ⟨q1, hq1, hc1', hi1⟩ := hr1.2.2 k _ hx
      obtain ⟨q2, hq2, hc2', hi2⟩ := hr2.2.2 k _ hx
      have HQ : Hid (q1.np = q2.np) := hq1.trans hq2.symm
      have HI1 := hid hi1
      have HI2 := hid hi2
      have HC1 : Hid (wr.rangeAt g1 (k * 19) q1.cells) := hc1'
      have HC2 : Hid (wr.rangeAt g2 (k * 19) q2.cells) := hc2'
      have kI : (k : Int) < ns.length := by omega
      have k0 : (0 : Int) ≤ k := by omega
      clear hr1 hr2 hc1' hc2' hi1 hi2 hq1 hq2 hx
      go_upto_region 6 with fail
      have hS0 : S4 w.heap.size (w.heap.size + 1) g1 g2 k (.slice (some ⟨g1, 0, none⟩) ns.length c1) (.slice (some ⟨g2, 0, none⟩) ns.length c2) q1 q2 wr := ⟨k1 0, k2 0, HC1.out, HC2.out⟩
      clear k1 k2
      refine wp_region_held_drew (S := S4 w.heap.size (w.heap.size + 1) g1 g2 k (.slice (some ⟨g1, 0, none⟩) ns.length c1) (.slice (some ⟨g2, 0, none⟩) ns.length c2) q1 q2) (by kernel_rfl) hS0 (fun hT => ?_)
      refine wpAnyH_take (i := 0) (v := ?_) rfl (by kernel_rfl) (by kernel_rfl) (by kernel_rfl) (fun _ _ _ h => h) (Or.inl ⟨by rfl, ?_⟩) hT ?_
      rotate_left
      · intro w' hSw
        obtain ⟨s1, s2, -, -⟩ := hSw
        go_simp
        try (with_reducible rfl)
      try simp only [Act.put, List.getElem_toArray, List.getElem_cons_zero, List.setIfInBounds_toArray, List.set_cons_succ, List.set_cons_zero]
      refine wpAnyH_take (i := 1) (v := ?_) rfl (by kernel_rfl) (by kernel_rfl) (by kernel_rfl) (fun _ _ _ h => h) (Or.inl ⟨by rfl, ?_⟩) hT ?_
      rotate_left
      · intro w' hSw
        obtain ⟨s1, s2, -, -⟩ := hSw
        go_simp
        try (with_reducible rfl)
      try simp only [Act.put, List.getElem_toArray, List.getElem_cons_zero, List.getElem_cons_succ, List.setIfInBounds_toArray, List.set_cons_succ, List.set_cons_zero]
      refine wpAnyH_take (i := 2) (v := ?_) rfl (by kernel_rfl) (by kernel_rfl) (by kernel_rfl) (fun _ _ _ h => h) (Or.inl ⟨by rfl, ?_⟩) hT ?_
      rotate_left
      · intro w' hSw
        obtain ⟨s1, s2, -, -⟩ := hSw
        go_simp
        try (with_reducible rfl)
      try simp only [Act.put, List.getElem_toArray, List.getElem_cons_zero, List.getElem_cons_succ, List.setIfInBounds_toArray, List.set_cons_succ, List.set_cons_zero]
      refine wpAnyH_take (i := 3) (v := ?_) rfl (by kernel_rfl) (by kernel_rfl) (by kernel_rfl) (fun _ _ _ h => h) (Or.inl ⟨by rfl, ?_⟩) hT ?_
      rotate_left
      · intro w' hSw
        obtain ⟨s1, s2, -, -⟩ := hSw
        go_simp
        try (with_reducible rfl)
      try simp only [Act.put, List.getElem_toArray, List.getElem_cons_zero, List.getElem_cons_succ, List.setIfInBounds_toArray, List.set_cons_succ, List.set_cons_zero]
      refine wpAnyH_take (i := 4) (v := .agg q1.cells.toArray) rfl (by kernel_rfl) (by kernel_rfl) (by kernel_rfl) (fun _ _ _ h => h) (yieldsIf_load_mid (by rfl) 52 (.tmp 23) rfl g1 (k * 19) rfl q1.cells _ (fun _ h => h.2.2.1) Tryz.underlying52 rfl size_node) hT ?_
      try simp only [Act.put, List.getElem_toArray, List.getElem_cons_zero, List.getElem_cons_succ, List.setIfInBounds_toArray, List.set_cons_succ, List.set_cons_zero]
      refine wpAnyH_take (i := 5) (v := ?_) rfl (by kernel_rfl) (by kernel_rfl) (by kernel_rfl) (fun _ _ _ h => h) (Or.inl ⟨by rfl, ?_⟩) hT ?_
      rotate_left
      · intro w' hSw
        obtain ⟨s1, s2, -, -⟩ := hSw
        go_simp
        try (with_reducible rfl)
      try simp only [Act.put, List.getElem_toArray, List.getElem_cons_zero, List.getElem_cons_succ, List.setIfInBounds_toArray, List.set_cons_succ, List.set_cons_zero]
      refine wpAnyH_take (i := 6) (v := ?_) rfl (by kernel_rfl) (by kernel_rfl) (by kernel_rfl) (fun _ _ _ h => h) (Or.inl ⟨by rfl, ?_⟩) hT ?_
      rotate_left
      · intro w' hSw
        obtain ⟨s1, s2, -, -⟩ := hSw
        go_simp
        try (with_reducible rfl)
      try simp only [Act.put, List.getElem_toArray, List.getElem_cons_zero, List.getElem_cons_succ, List.setIfInBounds_toArray, List.set_cons_succ, List.set_cons_zero]
      refine wpAnyH_take (i := 7) (v := ?_) rfl (by kernel_rfl) (by kernel_rfl) (by kernel_rfl) (fun _ _ _ h => h) (Or.inl ⟨by rfl, ?_⟩) hT ?_
      rotate_left
      · intro w' hSw
        obtain ⟨s1, s2, -, -⟩ := hSw
        go_simp
        try (with_reducible rfl)
      try simp only [Act.put, List.getElem_toArray, List.getElem_cons_zero, List.getElem_cons_succ, List.setIfInBounds_toArray, List.set_cons_succ, List.set_cons_zero]
      refine wpAnyH_take (i := 8) (v := ?_) rfl (by kernel_rfl) (by kernel_rfl) (by kernel_rfl) (fun _ _ _ h => h) (Or.inl ⟨by rfl, ?_⟩) hT ?_
      rotate_left
      · intro w' hSw
        obtain ⟨s1, s2, -, -⟩ := hSw
        go_simp
        try (with_reducible rfl)
      try simp only [Act.put, List.getElem_toArray, List.getElem_cons_zero, List.getElem_cons_succ, List.setIfInBounds_toArray, List.set_cons_succ, List.set_cons_zero]
      refine wpAnyH_take (i := 9) (v := .agg q2.cells.toArray) rfl (by kernel_rfl) (by kernel_rfl) (by kernel_rfl) (fun _ _ _ h => h) (yieldsIf_load_mid (by rfl) 52 (.tmp 28) rfl g2 (k * 19) rfl q2.cells _ (fun _ h => h.2.2.2) Tryz.underlying52 rfl size_node) hT ?_
      try simp only [Act.put, List.getElem_toArray, List.getElem_cons_zero, List.getElem_cons_succ, List.setIfInBounds_toArray, List.set_cons_succ, List.set_cons_zero]
      refine wpAnyH_ready (rs := [10]) (by kernel_rfl) (by simp) ?_
      refine AllReadyH.cons rfl (fun K hK => ?_) AllReadyH.nil
      refine step_call2 (v := .agg q1.cells.toArray) (v2 := .agg q2.cells.toArray) rfl (.tmp 24) (.tmp 29) 52 52 rfl (by simp [Act.eval]) (by simp [Act.eval]) enters_sn ?_
      refine (sameNode_any (w := wr.drew) (HI1.out.on (Below.refl _ _).drew) (HI2.out.on (Below.refl _ _).drew) HQ.out).mono ?_
      rintro e w2 ⟨rfl, hb2⟩
      refine ⟨_, rfl, ?_⟩
      have HB2 : Hid (Below W.heap.size W w2) := HBr.out.trans (((Below.refl _ wr).drew.trans hb2).mono HBr.out.size)
      refine hK.out _ _ (hS0.on ((Below.refl _ _).drew.trans hb2)) (fun hT => ?_)
      clear hK
      try simp only [Act.put, List.getElem_toArray, List.getElem_cons_zero, List.getElem_cons_succ, List.setIfInBounds_toArray, List.set_cons_succ, List.set_cons_zero]
      refine wpAnyH_take (i := 11) (v := ?_) rfl (by kernel_rfl) (by kernel_rfl) (by kernel_rfl) (fun _ _ _ h => h) (Or.inl ⟨by rfl, ?_⟩) hT ?_
      rotate_left
      · intro w' hSw
        skip
        go_simp
        try (with_reducible rfl)
      try simp only [Act.put, List.getElem_toArray, List.getElem_cons_zero, List.getElem_cons_succ, List.setIfInBounds_toArray, List.set_cons_succ, List.set_cons_zero]
      refine wpAnyH_done (by kernel_rfl) ?_ _
      clear hT hS0 hb2
      go_wp2_with fail
      go_roundw
      case rel => exact ⟨k + 1, by omega, by go_num, HB2.out⟩
      case measure => simp [intOf]; omega
    · have kI : ¬ (k : Int) < ns.length := by omega
      go_wp2_with fail
      go_ret
      exact ⟨rfl, HB.out.trans (HBr.out.mono HB.out.size)⟩
end Go.Proofs.YtomnjckbgmbgmaaGreatDoor
