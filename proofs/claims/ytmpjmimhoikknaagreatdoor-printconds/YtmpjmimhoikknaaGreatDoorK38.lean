/-
  Same of what is the same.
  A condition among the nodes of a query that was read.
  PrintConds's walk: a text that is not read, a node that is no condition.
-/
import Derived.Test.YtmpjmimhoikknaaGreatDoorK14
import Derived.Test.YtmpjmimhoikknaaGreatDoorK36
import Derived.Test.YtmpjmimhoikknaaGreatDoorK37
namespace Go.Proofs.YtmpjmimhoikknaaGreatDoor
open Go.RowKit Go.Joins Go.Sort Go.Maps Go.Shelf

theorem step_call2 {ops : Array Oper} {o : Oper} {a : Act} {w : World} {K : Act → World → Prop} {Q : Exit → Act → World → Prop} {E : Prop} {f : FuncId} {v v2 : Value} (hgd : o.guard = none) (x y : Operand) (t t2 : TypeId)
    (ho : o.op = .call { callee := .value (.func f), args := #[x, y], argTypes := #[t, t2] }) (hx : a.eval x = v) (hy : a.eval y = v2) (hen : ∀ args w, (callFunc f args).run Tryz.prog w = .ok (.enter f args) w)
    (hc : Calls Tryz.prog f #[v, v2] w fun e w' => ∃ u, e = .returned u ∧ K (a.put o.dst u) w') : if Region.wanted o (yielded ops a.tmps) = true then Oper.wp Tryz.prog o a w K Q else E := by
  have hw : Region.wanted o (yielded ops a.tmps) = true := by simp [Region.wanted, hgd]
  rw [if_pos hw]
  unfold Oper.wp
  have hr : (execOp a.eval o).run Tryz.prog w = .ok (.enter f #[v, v2]) w := by
    simp [execOp, ho, resolve, invoke, hen, go_sem]
    rw [← hx, ← hy]
    cases x <;> cases y <;> simp [Act.eval]
  rw [hr, Oper.upon_enter]
  refine hc.mono ?_
  rintro e w' ⟨u, rfl, hk⟩
  exact hk
/- What is read while two nodes are held against one another. -/
def S4 (b1 b2 g1 g2 k : Nat) (v1 v2 : Value) (q1 q2 : Nd) (W : World) : Prop := W.cell? ⟨b1, 0, none⟩ = some v1 ∧ W.cell? ⟨b2, 0, none⟩ = some v2 ∧ W.rangeAt g1 (k * 19) q1.cells ∧ W.rangeAt g2 (k * 19) q2.cells
theorem S4.on {b1 b2 g1 g2 k : Nat} {v1 v2 : Value} {q1 q2 : Nd} {W W' : World} (h : S4 b1 b2 g1 g2 k v1 v2 q1 q2 W) (hb : Below W.heap.size W W') : S4 b1 b2 g1 g2 k v1 v2 q1 q2 W' :=
  ⟨(hb.cell (p := ⟨b1, 0, none⟩) (block_lt_of_cell h.1)).trans h.1, (hb.cell (p := ⟨b2, 0, none⟩) (block_lt_of_cell h.2.1)).trans h.2.1, fun j u hj => (hb.cell (p := ⟨g1, k * 19 + j, none⟩) (block_lt_of_cell (h.2.2.1 j u hj))).trans (h.2.2.1 j u hj), fun j u hj => (hb.cell (p := ⟨g2, k * 19 + j, none⟩) (block_lt_of_cell (h.2.2.2 j u hj))).trans (h.2.2.2 j u hj)⟩
theorem enters_sn : ∀ args w, (callFunc 23 args).run Tryz.prog w = .ok (.enter 23 args) w := enters_of Tryz.func23 (by kernel_rfl) rfl
set_option maxRecDepth 100000 in
set_option maxHeartbeats 2000000 in
theorem same_is {w : World} {n1 n2 : Nat} {v1 v2 : Value} {ns : List Np} (h1 : Nq n1 w v1 ns) (h2 : Nq n2 w v2 ns) : Calls Tryz.prog 20 #[.agg #[v1], .agg #[v2]] w fun e w' => e = .returned (.bool true) ∧ Below w.heap.size w w' := by
  obtain ⟨p1, c1, rfl, hc1, hc2⟩ := h1.len
  obtain ⟨p2, c2, rfl, hd1, hd2⟩ := h2.len
  unfold maxLen at hc2 hd2
  have HB : Hid (Below w.heap.size w ((w.alloc (.cells #[.slice p1 ns.length c1] 24)).alloc (.cells #[.slice p2 ns.length c2] 24))) := ((Below.refl _ _).alloc (Nat.le_refl _) _).alloc (by simp) _
  have HA := hid ((Kp.alloc (fun _ => False) (w.alloc (.cells #[.slice p1 ns.length c1] 24)) (.cells #[.slice p2 ns.length c2] 24)).blk (alloc_block w _) id)
  have hZ := alloc_block (w.alloc (.cells #[.slice p1 ns.length c1] 24)) (.cells #[.slice p2 ns.length c2] 24)
  rw [World.size_alloc] at hZ
  have HZ := hid hZ
  have k1 := block_cell HA.out
  have k2 := block_cell HZ.out
  generalize hW : ((w.alloc (.cells #[.slice p1 ns.length c1] 24)).alloc (.cells #[.slice p2 ns.length c2] 24)) = W at *
  have HW := hid hW
  have H1 := hid (h1.on HB.out)
  have H2 := hid (h2.on HB.out)
  clear hW hZ h1 h2
  have bn : ((ns.length : Int) != ns.length) = false := by simp
  have lI : (ns.length : Int) ≤ 9223372036854775807 := by omega
  go_enter Tryz.func20, Tryz.ntmps20
  go_upto_region 1 with fail
  rw [HW.out]
  go_wp2_with fail
  clear k1 k2
  go_loopw [5] (fun x wr => ∃ k : Nat, k ≤ ns.length ∧ x = .int .i64 k ∧ Hid (Below W.heap.size W wr)) (fun x _ => ns.length - (intOf x).toNat)
  case atStart => exact ⟨0, by omega, rfl, Below.refl _ _⟩
  case round =>
    obtain ⟨k, hk, rfl, HBr⟩ := hrel
    have k1 := block_cell (block_on HA.out HBr.out)
    have k2 := block_cell (block_on HZ.out HBr.out)
    by_cases hlt : k < ns.length
    · have hx := List.getElem?_eq_getElem hlt
      obtain ⟨g1, e1, hv1, -, -, hr1⟩ := (H1.out.on HBr.out).rows (by omega)
      obtain ⟨g2, e2, hv2, -, -, hr2⟩ := (H2.out.on HBr.out).rows (by omega)
      cases hv1
      cases hv2
      obtain ⟨q1, hq1, hc1', hi1⟩ := hr1.2.2 k _ hx
      obtain ⟨q2, hq2, hc2', hi2⟩ := hr2.2.2 k _ hx
      have HQ : Hid (q1.np = q2.np) := hq1.trans hq2.symm
      have HI1 := hid hi1
      have HI2 := hid hi2
      have HC1 : Hid (wr.rangeAt g1 (k * 19) q1.cells) := hc1'
      have HC2 : Hid (wr.rangeAt g2 (k * 19) q2.cells) := hc2'
      have kI : (k : Int) < ns.length := by omega
      have k0 : (0 : Int) ≤ k := by omega
      clear hr1 hr2 hc1' hc2' hi1 hi2 hq1 hq2 hx
      go_upto_region 6 with fail
      have hS0 : S4 w.heap.size (w.heap.size + 1) g1 g2 k (.slice (some ⟨g1, 0, none⟩) ns.length c1) (.slice (some ⟨g2, 0, none⟩) ns.length c2) q1 q2 wr := ⟨k1 0, k2 0, HC1.out, HC2.out⟩
      clear k1 k2
      refine wp_region_held_drew (S := S4 w.heap.size (w.heap.size + 1) g1 g2 k (.slice (some ⟨g1, 0, none⟩) ns.length c1) (.slice (some ⟨g2, 0, none⟩) ns.length c2) q1 q2) (by kernel_rfl) hS0 (fun hT => ?_)
      refine wpAnyH_take (i := 0) (v := ?_) rfl (by kernel_rfl) (by kernel_rfl) (by kernel_rfl) (fun _ _ _ h => h) (Or.inl ⟨by rfl, ?_⟩) hT ?_
      rotate_left
      · intro w' hSw
        obtain ⟨s1, s2, -, -⟩ := hSw
        go_simp
        try (with_reducible rfl)
      try simp only [Act.put, List.getElem_toArray, List.getElem_cons_zero, List.setIfInBounds_toArray, List.set_cons_succ, List.set_cons_zero]
      refine wpAnyH_take (i := 1) (v := ?_) rfl (by kernel_rfl) (by kernel_rfl) (by kernel_rfl) (fun _ _ _ h => h) (Or.inl ⟨by rfl, ?_⟩) hT ?_
      rotate_left
      · intro w' hSw
        obtain ⟨s1, s2, -, -⟩ := hSw
        go_simp
        try (with_reducible rfl)
      try simp only [Act.put, List.getElem_toArray, List.getElem_cons_zero, List.getElem_cons_succ, List.setIfInBounds_toArray, List.set_cons_succ, List.set_cons_zero]
      refine wpAnyH_take (i := 2) (v := ?_) rfl (by kernel_rfl) (by kernel_rfl) (by kernel_rfl) (fun _ _ _ h => h) (Or.inl ⟨by rfl, ?_⟩) hT ?_
      rotate_left
      · intro w' hSw
        obtain ⟨s1, s2, -, -⟩ := hSw
        go_simp
        try (with_reducible rfl)
      try simp only [Act.put, List.getElem_toArray, List.getElem_cons_zero, List.getElem_cons_succ, List.setIfInBounds_toArray, List.set_cons_succ, List.set_cons_zero]
      refine wpAnyH_take (i := 3) (v := ?_) rfl (by kernel_rfl) (by kernel_rfl) (by kernel_rfl) (fun _ _ _ h => h) (Or.inl ⟨by rfl, ?_⟩) hT ?_
      rotate_left
      · intro w' hSw
        obtain ⟨s1, s2, -, -⟩ := hSw
        go_simp
        try (with_reducible rfl)
      try simp only [Act.put, List.getElem_toArray, List.getElem_cons_zero, List.getElem_cons_succ, List.setIfInBounds_toArray, List.set_cons_succ, List.set_cons_zero]
      refine wpAnyH_take (i := 4) (v := .agg q1.cells.toArray) rfl (by kernel_rfl) (by kernel_rfl) (by kernel_rfl) (fun _ _ _ h => h) (yieldsIf_load_mid (by rfl) 44 (.tmp 23) rfl g1 (k * 19) rfl q1.cells _ (fun _ h => h.2.2.1) Tryz.underlying44 rfl size_node) hT ?_
      try simp only [Act.put, List.getElem_toArray, List.getElem_cons_zero, List.getElem_cons_succ, List.setIfInBounds_toArray, List.set_cons_succ, List.set_cons_zero]
      refine wpAnyH_take (i := 5) (v := ?_) rfl (by kernel_rfl) (by kernel_rfl) (by kernel_rfl) (fun _ _ _ h => h) (Or.inl ⟨by rfl, ?_⟩) hT ?_
      rotate_left
      · intro w' hSw
        obtain ⟨s1, s2, -, -⟩ := hSw
        go_simp
        try (with_reducible rfl)
      try simp only [Act.put, List.getElem_toArray, List.getElem_cons_zero, List.getElem_cons_succ, List.setIfInBounds_toArray, List.set_cons_succ, List.set_cons_zero]
      refine wpAnyH_take (i := 6) (v := ?_) rfl (by kernel_rfl) (by kernel_rfl) (by kernel_rfl) (fun _ _ _ h => h) (Or.inl ⟨by rfl, ?_⟩) hT ?_
      rotate_left
      · intro w' hSw
        obtain ⟨s1, s2, -, -⟩ := hSw
        go_simp
        try (with_reducible rfl)
      try simp only [Act.put, List.getElem_toArray, List.getElem_cons_zero, List.getElem_cons_succ, List.setIfInBounds_toArray, List.set_cons_succ, List.set_cons_zero]
      refine wpAnyH_take (i := 7) (v := ?_) rfl (by kernel_rfl) (by kernel_rfl) (by kernel_rfl) (fun _ _ _ h => h) (Or.inl ⟨by rfl, ?_⟩) hT ?_
      rotate_left
      · intro w' hSw
        obtain ⟨s1, s2, -, -⟩ := hSw
        go_simp
        try (with_reducible rfl)
      try simp only [Act.put, List.getElem_toArray, List.getElem_cons_zero, List.getElem_cons_succ, List.setIfInBounds_toArray, List.set_cons_succ, List.set_cons_zero]
      refine wpAnyH_take (i := 8) (v := ?_) rfl (by kernel_rfl) (by kernel_rfl) (by kernel_rfl) (fun _ _ _ h => h) (Or.inl ⟨by rfl, ?_⟩) hT ?_
      rotate_left
      · intro w' hSw
        obtain ⟨s1, s2, -, -⟩ := hSw
        go_simp
        try (with_reducible rfl)
      try simp only [Act.put, List.getElem_toArray, List.getElem_cons_zero, List.getElem_cons_succ, List.setIfInBounds_toArray, List.set_cons_succ, List.set_cons_zero]
      refine wpAnyH_take (i := 9) (v := .agg q2.cells.toArray) rfl (by kernel_rfl) (by kernel_rfl) (by kernel_rfl) (fun _ _ _ h => h) (yieldsIf_load_mid (by rfl) 44 (.tmp 28) rfl g2 (k * 19) rfl q2.cells _ (fun _ h => h.2.2.2) Tryz.underlying44 rfl size_node) hT ?_
      try simp only [Act.put, List.getElem_toArray, List.getElem_cons_zero, List.getElem_cons_succ, List.setIfInBounds_toArray, List.set_cons_succ, List.set_cons_zero]
      refine wpAnyH_ready (rs := [10]) (by kernel_rfl) (by simp) ?_
      refine AllReadyH.cons rfl (fun K hK => ?_) AllReadyH.nil
      refine step_call2 (v := .agg q1.cells.toArray) (v2 := .agg q2.cells.toArray) rfl (.tmp 24) (.tmp 29) 44 44 rfl (by simp [Act.eval]) (by simp [Act.eval]) enters_sn ?_
      refine (sameNode_any (w := wr.drew) (HI1.out.on (Below.refl _ _).drew) (HI2.out.on (Below.refl _ _).drew) HQ.out).mono ?_
      rintro e w2 ⟨rfl, hb2⟩
      refine ⟨_, rfl, ?_⟩
      have HB2 : Hid (Below W.heap.size W w2) := HBr.out.trans (((Below.refl _ wr).drew.trans hb2).mono HBr.out.size)
      refine hK.out _ _ (hS0.on ((Below.refl _ _).drew.trans hb2)) (fun hT => ?_)
      clear hK
      try simp only [Act.put, List.getElem_toArray, List.getElem_cons_zero, List.getElem_cons_succ, List.setIfInBounds_toArray, List.set_cons_succ, List.set_cons_zero]
      refine wpAnyH_take (i := 11) (v := ?_) rfl (by kernel_rfl) (by kernel_rfl) (by kernel_rfl) (fun _ _ _ h => h) (Or.inl ⟨by rfl, ?_⟩) hT ?_
      rotate_left
      · intro w' hSw
        skip
        go_simp
        try (with_reducible rfl)
      try simp only [Act.put, List.getElem_toArray, List.getElem_cons_zero, List.getElem_cons_succ, List.setIfInBounds_toArray, List.set_cons_succ, List.set_cons_zero]
      refine wpAnyH_done (by kernel_rfl) ?_ _
      clear hT hS0 hb2
      go_wp2_with fail
      go_roundw
      case rel => exact ⟨k + 1, by omega, by go_num, HB2.out⟩
      case measure => simp [intOf]; omega
    · have kI : ¬ (k : Int) < ns.length := by omega
      go_wp2_with fail
      go_ret
      exact ⟨rfl, HB.out.trans (HBr.out.mono HB.out.size)⟩
end Go.Proofs.YtmpjmimhoikknaaGreatDoor
namespace Go.Proofs.YtmpjmimhoikknaaGreatDoor
open Go.RowKit Go.Joins

structure Cs (ns : List Np) (i : Nat) (ws : List (List UInt8)) (s : List Np) : Prop where
  ne : 0 < s.length
  le : s.length ≤ i + 1
  sm : s.length ≤ 128
  wd : ws = wq s
  at_ : ∀ (j : Nat) (y : Np), s[j]? = some y → ns[i + 1 - s.length + j]? = some (shN (i + 1 - s.length) y)
  lk : ∀ (j : Nat) (y : Np), s[j]? = some y → y.l.length ≤ 2 ∧ ∀ e ∈ y.l, 0 ≤ e ∧ e < 128
  rd : (jw none (wq s)).length ≤ 2048 → ∃ us, lexO (jw none (wq s)) = (us, 0, 0) ∧ wholeS (us.map tp) (condS (us.map tp) 16) = (s, 0, 0)
theorem cond_case {qs : List Nx} {ns : List Np} (hp : Prs qs ns) {i : Nat} {x : Np} (hi : ns[i]? = some x) (hk : 11 ≤ x.kind) : ∃ s, Cs ns i (wd (qs.map xn) (i + 1) i) s := by
  obtain ⟨pre, s, h1, h2, h3⟩ := hp.q.sub i x hi hk
  have hlt : i < ns.length := (List.getElem?_eq_some_iff.1 hi).1
  have hL : pre.length + s.length = i + 1 := by
    have := congrArg List.length h1
    simp only [List.length_take, List.length_append, sh, List.length_map] at this
    omega
  have hne := h2.ne
  have e : ns.map xN = (pre ++ sh pre.length s ++ ns.drop (i + 1)).map xN := by rw [← h1, List.take_append_drop]
  have hw : wd (qs.map xn) (i + 1) i = wq s := by
    have hh := (wd_seg (k := pre.length) (pre := pre) (new := s) (post := ns.drop (i + 1)) rfl h2.ah h2.ne (d := i + 1) (by omega)).1
    rw [hp.xn, e]
    have e2 : pre.length + s.length - 1 = i := by omega
    rw [e2] at hh
    exact hh
  have hn := hp.n
  have hlw := hp.words (i := i) (by rw [hp.len]; exact hlt)
  rw [hw] at hlw
  refine ⟨s, hne, by omega, by omega, hw, fun j y hj => ?_, fun j y hj => ?_, fun hjl => cond_read h2 h3 hlw (by omega) hjl⟩
  rotate_left
  · obtain ⟨ha, hb⟩ := h2.ah j (xN y) (by rw [List.getElem?_map, hj]; rfl)
    have hjs : j < s.length := (List.getElem?_eq_some_iff.1 hj).1
    refine ⟨?_, fun e he => by have := hb e he; omega⟩
    have ha' : (y.l.length : Int) = belowN y.kind := ha
    unfold belowN at ha'
    repeat' split at ha'
    all_goals omega
  have hjs : j < s.length := (List.getElem?_eq_some_iff.1 hj).1
  have e3 : i + 1 - s.length = pre.length := by omega
  rw [e3]
  have : (ns.take (i + 1))[pre.length + j]? = some (shN pre.length y) := by
    rw [h1, List.getElem?_append_right (by omega), Nat.add_sub_cancel_left, sh, List.getElem?_map, hj]; rfl
  rw [List.getElem?_take_of_lt (by omega)] at this
  exact this
section
variable {w : World} {v : Value}
theorem Cond_read {n : Nat} {l : List UInt8} (i : Int) {z : List UInt8 × Int} (he : (queryO l).2.2 = 0) (hz : ∀ qs, Prs qs (queryO l).1 → chkB qs = true → condO qs i = z) (h : Nq n w v (queryO l).1) (hG : Gq w) : Calls Tryz.prog 15 #[.agg #[v], .int .i64 i] w fun e w' => e = .returned (.tuple #[.string (St z.1), .int .i64 z.2]) ∧ Below w.heap.size w w' := by
  obtain ⟨qs, h1, hp, hc⟩ := h.prs he
  have hO := hz qs hp hc
  have := pCond_any i (h1.imp (fun _ hb => hb.2)) hG hp.room (fun hk => by
    unfold condOk at hk
    simp only [Bool.and_eq_true, decide_eq_true_eq] at hk
    exact hp.jw (by omega))
  rwa [hO] at this
theorem condO_bad {qs : List Nx} {ns : List Np} (hp : Prs qs ns) (i : Int) (h : i < 0 ∨ (ns.length : Int) ≤ i ∨ ∃ x, ns[i.toNat]? = some x ∧ x.kind < 11) : condO qs i = ([], 120) := by
  have : condOk qs i = false := by
    unfold condOk
    rw [Bool.and_eq_false_iff]
    right
    rw [decide_eq_false_iff_not, hp.len]
    rintro ⟨h1, h2, h3⟩
    rcases h with h | h | ⟨x, hx, hk⟩
    · omega
    · omega
    · obtain ⟨q, hq, rfl⟩ : ∃ q, qs[i.toNat]? = some q ∧ q.np = x := by
        rw [← hp.e, List.getElem?_map] at hx
        cases hq : qs[i.toNat]? with
        | none => rw [hq] at hx; cases hx
        | some q => rw [hq] at hx; exact ⟨q, rfl, by cases hx; rfl⟩
      rw [kindAt_of hq] at h3
      omega
  unfold condO
  rw [this]; rfl
theorem condO_good {qs : List Nx} {ns : List Np} (hp : Prs qs ns) (hc : chkB qs = true) {i : Nat} {x : Np} (hx : ns[i]? = some x) (hk : 11 ≤ x.kind) : condO qs i = textO (wd (ns.map xN) (i + 1) i) := by
  have hi := (List.getElem?_eq_some_iff.1 hx).1
  have : condOk qs i = true := by
    unfold condOk
    rw [hc, Bool.true_and, decide_eq_true_iff, hp.len]
    obtain ⟨q, hq, rfl⟩ : ∃ q, qs[i]? = some q ∧ q.np = x := by
      rw [← hp.e, List.getElem?_map] at hx
      cases hq : qs[i]? with
      | none => rw [hq] at hx; cases hx
      | some q => rw [hq] at hx; exact ⟨q, rfl, by cases hx; rfl⟩
    refine ⟨by omega, by omega, ?_⟩
    show 11 ≤ kindAt _ i
    rw [kindAt_of hq]; exact hk
  unfold condO
  rw [this, hp.xn]; rfl
end
end Go.Proofs.YtmpjmimhoikknaaGreatDoor
namespace Go.Proofs.YtmpjmimhoikknaaGreatDoor
open Go.RowKit Go.Joins Go.Sort Go.Maps Go.Shelf

theorem read_prs {l : List UInt8} (he : (queryO l).2.2 = 0) : ∃ qs, Prs qs (queryO l).1 ∧ chkB qs = true := by
  refine ⟨(queryO l).1.map (fun n => Nx.of (bare n)), prs_of he (fun q hq => ?_) ?_⟩
  · obtain ⟨n, -, rfl⟩ := List.mem_map.1 hq
    exact ⟨rfl, rfl, rfl, rfl, rfl, rfl, rfl, rfl⟩
  · rw [List.map_map]; exact List.map_id'' (fun _ => rfl) _
theorem read_case {l : List UInt8} (he : (queryO l).2.2 = 0) {i : Nat} {x : Np} (hx : (queryO l).1[i]? = some x) (hk : 11 ≤ x.kind) : ∃ s, Cs (queryO l).1 i (wd ((queryO l).1.map xN) (i + 1) i) s := by
  obtain ⟨qs, hp, -⟩ := read_prs he
  have := cond_case hp hx hk
  rwa [hp.xn] at this
theorem read_len {l : List UInt8} (he : (queryO l).2.2 = 0) : 0 < (queryO l).1.length ∧ (queryO l).1.length ≤ 128 := by
  obtain ⟨qs, hp, hc⟩ := read_prs he
  have h1 := isTree_ne (chk_tree hc)
  rw [List.length_map, hp.len] at h1
  exact h1
set_option maxRecDepth 100000 in
set_option maxHeartbeats 2000000 in
/-- PrintConds, at a text that is not read -/
theorem conds_unread (l : List UInt8) (i : Int) (hl : (l.length : Int) ≤ 140737488355328) (he : ¬ (queryO l).2.2 = 0) (w : World) (hG : Gq w) : Calls Tryz.prog 5 #[.string (St l), .int .i64 i] w fun e w' => e = .returned (.bool true) ∧ Below w.heap.size w w' := by
  have HS := hid (pshown_any w hG)
  have HR := hid (fun w => RQuery_any l hl w)
  generalize queryO l = R at *
  obtain ⟨A, pa, ea⟩ := R
  have b1 : (ea != 0) = true := by simpa using he
  clear hG he
  go_enter Tryz.func5, Tryz.ntmps5
  go_wp2_with (first
    | (go_at_call 11; refine HS.out.mono ?_; rintro e w1 ⟨rfl, hb⟩; have HB1 := hid hb; clear hb)
    | (go_at_call 19; refine (HR.out _).mono ?_; rintro e w2 ⟨va, rfl, hna, hb⟩; obtain ⟨p1, c1, rfl, ca1, ca2⟩ := hna.len; have HB2 := hid ((HB1.out.trans (hb.mono HB1.out.size)).alloc (Nat.le_trans HB1.out.size hb.size) (.cells #[.slice p1 A.length c1] 24)); clear hna hb ca1 ca2))
  go_ret
  exact ⟨rfl, HB2.out⟩
set_option maxRecDepth 100000 in
set_option maxHeartbeats 4000000 in
/-- PrintConds, at a node that is no condition -/
theorem conds_bad (l : List UInt8) (i : Int) (hl : (l.length : Int) ≤ 140737488355328) (he : (queryO l).2.2 = 0) (hi : i < 0 ∨ ((queryO l).1.length : Int) ≤ i ∨ ∃ x, (queryO l).1[i.toNat]? = some x ∧ x.kind < 11) (w : World) (hG : Gq w) : Calls Tryz.prog 5 #[.string (St l), .int .i64 i] w fun e w' => e = .returned (.bool true) ∧ Below w.heap.size w w' := by
  have HG := hid hG
  have HS := hid (pshown_any w hG)
  have HR := hid (fun w => RQuery_any l hl w)
  have HC : Hid (∀ (w : World) (v : Value) (n : Nat), Nq n w v (queryO l).1 → Gq w → Calls Tryz.prog 15 #[.agg #[v], .int .i64 i] w fun e w' => e = .returned (.tuple #[.string (St []), .int .i64 120]) ∧ Below w.heap.size w w') := fun w v n h hG => Cond_read i he (z := ([], 120)) (fun qs hp _ => condO_bad hp i hi) h hG
  have hne := read_len he
  generalize queryO l = R at *
  obtain ⟨A, pa, ea⟩ := R
  simp only at he hi hne HC
  subst he
  clear hG
  go_enter Tryz.func5, Tryz.ntmps5
  go_upto_region 6 with (first
    | (go_at_call 11; refine HS.out.mono ?_; rintro e w1 ⟨rfl, hb⟩; have HB1 := hid hb; clear hb)
    | (go_at_call 19; refine (HR.out _).mono ?_; rintro e w2 ⟨va, rfl, hna, hb⟩; obtain ⟨g1, c1, rfl, ca1, ca2, hr⟩ := hna.rows hne.1; have HB2 := hid ((HB1.out.trans (hb.mono HB1.out.size)).alloc (Nat.le_trans HB1.out.size hb.size) (.cells #[.slice (some ⟨g1, 0, none⟩) A.length c1] 24)); have HNA := hid (hna.on ((Below.refl _ _).alloc (Nat.le_refl _) (.cells #[.slice (some ⟨g1, 0, none⟩) A.length c1] 24))); have HNR := hid (hr.le.on ((Below.refl _ _).alloc (Nat.le_refl _) (.cells #[.slice (some ⟨g1, 0, none⟩) A.length c1] 24))); have HXA := hid (alloc_block w2 (.cells #[.slice (some ⟨g1, 0, none⟩) A.length c1] 24)); have y0 := block_cell HXA.out 0; clear hna hb hr)
    | (go_at_call 15; refine (HC.out _ _ _ HNA.out (HG.out.next HB2.out)).mono ?_; rintro e w3 ⟨rfl, hb⟩; have HB3 := hid (HB2.out.trans (hb.mono HB2.out.size)); have y3 := block_cell (block_on HXA.out hb) 0; have HN3 := hid (HNR.out.on hb); clear hb))
  generalize w2.heap.size = bA at *
  unfold maxLen at ca2
  rcases hi with h | h | ⟨x, hx, hk⟩
  · have : ¬ 0 ≤ i := by omega
    go_wp2_with fail
    go_ret
    exact ⟨rfl, HB3.out⟩
  · have h0 : 0 ≤ i := by omega
    have h1 : ¬ i < (A.length : Int) := by omega
    go_wp2_with fail
    go_ret
    exact ⟨rfl, HB3.out⟩
  · by_cases h0 : 0 ≤ i
    · obtain ⟨n, rfl⟩ : ∃ n : Nat, i = n := ⟨i.toNat, by omega⟩
      have hn := (List.getElem?_eq_some_iff.1 hx).1
      have hx' : A[n]? = some x := hx
      obtain ⟨q, rfl, hcl, -⟩ := HN3.out.2.2 n x hx'
      have hc0 : w3.cell? ⟨g1, n * 19, none⟩ = some (.int .i64 q.np.kind) := hcl 0 _ rfl
      have h1 : (n : Int) < (A.length : Int) := by simpa using hn
      have h2 : ¬ 11 ≤ q.np.kind := by omega
      clear hcl hx hx' hn
      go_wp2_with fail
      go_ret
      exact ⟨rfl, HB3.out⟩
    · go_wp2_with fail
      go_ret
      exact ⟨rfl, HB3.out⟩
end Go.Proofs.YtmpjmimhoikknaaGreatDoor
