/-
  What lay and end do.
-/
import Derived.Test.YtomnjckbgmbgmaaGreatDoorQPRf
namespace Go.Proofs.YtomnjckbgmbgmaaGreatDoor
open Go.RowKit Go.Joins

section
variable {B : Nat} {ts : List Tp} {w : World} {rb : Nat} {tv sv : Value} {o i : Nat} {qs : List Nd}
theorem how_bad {s : List UInt8} {j j2 : Nat} {c : Int} (h1 : nameS ts i = .ok s j) (h2 : isW ts j wHas = false) (h3 : howS ts j = .bad j2 c) : testS ts i = .bad j2 c := by
  unfold howS at h3
  cases h4 : oneOfS ts howW j with
  | bad a b => rw [h4] at h3; simp only [Rs.and] at h3; simp [testS, h1, h2, h4, Rs.and]; simpa using h3
  | ok a b => rw [h4] at h3; simp only [Rs.and] at h3; cases h3
theorem value_bad {s : List UInt8} {j j2 j3 : Nat} {x c : Int} (h1 : nameS ts i = .ok s j) (h2 : isW ts j wHas = false) (h3 : howS ts j = .ok x j2) (h5 : valueS ts j2 = .bad j3 c) : testS ts i = .bad j3 c := by
  unfold howS at h3
  cases h4 : oneOfS ts howW j with
  | bad a b => rw [h4] at h3; simp only [Rs.and] at h3; cases h3
  | ok a b => rw [h4] at h3; simp only [Rs.and] at h3; cases h3; simp [testS, h1, h2, h4, h5, Rs.and]
theorem value_ok {s : List UInt8} {j j2 j3 : Nat} {x : Int} {y : Int × Int × List UInt8} (h1 : nameS ts i = .ok s j) (h2 : isW ts j wHas = false) (h3 : howS ts j = .ok x j2) (h5 : valueS ts j2 = .ok y j3) : testS ts i = .ok { n0 with kind := 14, s := s, n := x, vk := y.1, vn := y.2.1, vs := y.2.2 } j3 := by
  unfold howS at h3
  cases h4 : oneOfS ts howW j with
  | bad a b => rw [h4] at h3; simp only [Rs.and] at h3; cases h3
  | ok a b => rw [h4] at h3; simp only [Rs.and] at h3; cases h3; simp [testS, h1, h2, h4, h5, Rs.and]
theorem Rq.B_le (h : Rq B ts w rb tv sv o i qs) : B ≤ w.heap.size := by have := h.bB; have := h.lt; omega
theorem lay_app {W w3 : World} {v' : Value} {q : Nd} (h : Rq B ts w rb tv sv o i qs) (hb : Below w.heap.size w W) (hown : Own Nd.cells 19 52 B w3 v' (qs ++ [q])) (hgr : W.grownBy w3 sv.ownBlock) (hat : At W sv v') (hq : NdIn B w q) (hl : qs.length + 1 ≤ i) :
    w3.heap[rb]? = some (.cells #[tv, .int .i64 (i : Int), .int .i64 (o : Int), sv] 84 (0, 0)) ∧ Rq B ts (w3.setCell ⟨rb, 3, none⟩ v') rb tv v' o i (qs ++ [q]) ∧ At w sv v' ∧ Kp (Tq rb sv) w (w3.setCell ⟨rb, 3, none⟩ v') := by
  have h2 := h.on hb
  have k3 : Kp (fun k => sv.ownBlock = some k) W w3 := Kp.grown hgr (fun k e => e)
  have c1 := k3.blk h2.blk (fun e => h.ne _ e rfl)
  have ks : Kp (fun k => k = rb) w3 (w3.setCell ⟨rb, 3, none⟩ v') := Kp.set (T := fun k => k = rb) rfl _
  have hall : Kp (Tq rb sv) w (w3.setCell ⟨rb, 3, none⟩ v') := ((Kp.of hb).trans' k3 (fun i _ e => .inr e)).trans' ks (fun i _ e => .inl e)
  have ho := hown.kp ks (fun k e e2 => by subst e2; obtain ⟨c, fz, hc⟩ := hown.kind e; rw [c1] at hc; cases hc)
  refine ⟨c1, ⟨h.bB, ?_, ho, ?_, ?_, h.il, h.tl, by simp; omega, h.ol⟩, ?_, hall⟩
  · have := block_set c1 3 v'; simpa using this
  · intro x hx
    rcases List.mem_append.1 hx with hx | hx
    · exact (h.each x hx).kp hall h.tk
    · simp at hx; subst hx; exact hq.kp hall h.tk
  · exact h.tok.kp hall (fun b hb hT => by have := h.T_ge b hT; omega)
  · exact fun k hk => (hat k hk).imp id (fun e => Nat.le_trans hb.size e)
/- What a row of nodes is after lay. -/
def LyP (B : Nat) (ts : List Tp) (rb : Nat) (tv sv : Value) (o i : Nat) (qs : List Nd) (w : World) (q : Nd) (e : Ending) (w' : World) : Prop :=
  e = .returned (.int .i64 (qs.length : Int)) ∧ ∃ sv', Rq B ts w' rb tv sv' o i (qs ++ [q]) ∧ At w sv sv' ∧ Kp (Tq rb sv) w w'
abbrev S6 (bx : Nat) (C : Array Value) (W : World) : Prop := W.heap[bx]? = some (.cells C 52 (0, 0))
theorem s6_range {bx : Nat} {q : Nd} {W : World} (h : S6 bx q.cells.toArray W) : W.rangeAt bx 0 q.cells := fun j v hv => by rw [block_cell h, Nat.zero_add]; simpa using hv
theorem buildS_one (W : World) (q : Nd) : (Instr.buildSlice 25 1 #[(0, .agg q.cells.toArray)]).run Tryz.prog W = .ok (.slice (some ⟨W.heap.size, 0, none⟩) 1 1) (W.alloc (.cells ([q].flatMap Nd.cells).toArray 52)) := by
  kernel_rfl
theorem step_bs {ops : Array Oper} {o : Oper} {a : Act} {w : World} {K : Act → World → Prop} {Q : Exit → Act → World → Prop} {E : Prop} {q : Nd} (hgd : o.guard = none) (x : Operand) (ho : o.op = .buildSlice 25 1 #[(0, x)]) (hx : a.eval x = .agg q.cells.toArray)
    (h : K (a.put o.dst (.slice (some ⟨w.heap.size, 0, none⟩) 1 1)) (w.alloc (.cells ([q].flatMap Nd.cells).toArray 52))) : if Region.wanted o (yielded ops a.tmps) = true then Oper.wp Tryz.prog o a w K Q else E := by
  have hw : Region.wanted o (yielded ops a.tmps) = true := by simp [Region.wanted, hgd]
  rw [if_pos hw]
  unfold Oper.wp execOp
  simp only [ho, List.map_toArray, List.map_cons, List.map_nil, hx, Sem.run_bind, Sem.run_pure, buildS_one, Result.andThen_ok]
  exact h
set_option maxRecDepth 100000 in
set_option maxHeartbeats 4000000 in
theorem lay_any (h : Rq B ts w rb tv sv o i qs) {q : Nd} (hq : NdIn B w q) (hl : qs.length + 1 ≤ i) : Calls Tryz.prog 50 #[dp rb, .agg q.cells.toArray] w (LyP B ts rb tv sv o i qs w q) := by
  obtain ⟨p, c, rfl⟩ := h.own.form
  have HK0 := hid h
  have HB : Hid (Below w.heap.size w (w.alloc (.cells q.cells.toArray 52 (0, 0)))) := (Below.refl _ _).alloc (Nat.le_refl _) _
  have HK := hid (h.on HB.out)
  have HQn := hid hq
  have HAll := hid hq.all
  have HLl := hid hl
  have hS0 : S6 w.heap.size q.cells.toArray (w.alloc (.cells q.cells.toArray 52 (0, 0))) := alloc_block w _
  have k0 := HK.out.cell
  have HLq : Hid (w.heap.size < (w.alloc (.cells q.cells.toArray 52 (0, 0))).heap.size) := by show _ < _; simp
  have hq1024 : (qs.length : Int) ≤ 1024 := by have := h.ql; have := h.il; have := h.tl; omega
  generalize hW : w.alloc (.cells q.cells.toArray 52 (0, 0)) = w1 at *
  have HW := hid hW
  have HSb := hid hS0
  clear h hW hq hl
  generalize hln : qs.length = ln at *
  have HLn := hid hln
  clear hln
  have HNb : Hid (w.heap.size ≠ rb) := fun e1 => by have := lt_of_block HK0.out.blk; omega
  go_enter Tryz.func50, Tryz.ntmps50
  go_upto_region 1 with fail
  rw [HW.out]
  refine wp_region_held_drew (S := S6 w.heap.size q.cells.toArray) (by kernel_rfl) hS0 (fun hT => ?_)
  refine wpAnyH_take (i := 0) (v := ?_) rfl (by kernel_rfl) (by kernel_rfl) (by kernel_rfl) (fun _ _ _ h => h) (Or.inl ⟨by rfl, ?_⟩) hT ?_
  rotate_left
  · intro w hSw
    go_simp
    try (with_reducible rfl)
  try go_frame
  refine wpAnyH_take (i := 1) (v := ?_) rfl (by kernel_rfl) (by kernel_rfl) (by kernel_rfl) (fun _ _ _ h => h) (Or.inl ⟨by rfl, ?_⟩) hT ?_
  rotate_left
  · intro w hSw
    go_simp
    try (with_reducible rfl)
  try go_frame
  refine wpAnyH_take (i := 2) (v := ?_) rfl (by kernel_rfl) (by kernel_rfl) (by kernel_rfl) (fun _ _ _ h => h) (Or.inl ⟨by rfl, ?_⟩) hT ?_
  rotate_left
  · intro w hSw
    go_simp
    try (with_reducible rfl)
  try go_frame
  refine wpAnyH_take (i := 3) (v := ?_) rfl (by kernel_rfl) (by kernel_rfl) (by kernel_rfl) (fun _ _ _ h => h) (Or.inl ⟨by rfl, ?_⟩) hT ?_
  rotate_left
  · intro w hSw
    go_simp
    try (with_reducible rfl)
  try go_frame
  refine wpAnyH_take (i := 5) (v := .agg q.cells.toArray) rfl (by kernel_rfl) (by kernel_rfl) (by kernel_rfl) (fun _ _ _ h => h) (yieldsIf_load_mid (by rfl) 52 (.tmp 3) rfl w.heap.size 0 rfl q.cells _ (fun _ h => s6_range h) Tryz.underlying52 rfl size_node) hT ?_
  try go_frame
  have HKc : Hid (Rq B ts w1.drew rb tv (.slice p ln c) o i qs) := HK.out.on (Below.refl _ _).drew
  have HBw : Hid (Below w.heap.size w w1.drew) := HB.out.drew
  have HLc : Hid (w.heap.size < w1.drew.heap.size) := HLq.out
  generalize w1.drew = W2 at *
  clear k0 hS0
  refine wpAnyH_ready (rs := [4, 6]) (by kernel_rfl) (by simp) ?_
  refine AllReadyH.cons rfl (fun K hK => ?_) (AllReadyH.cons rfl (fun K hK => ?_) AllReadyH.nil)
  · have c1 : W2.cell? ⟨rb, 3, none⟩ = some (.slice p ln c) := block_cell HKc.out.blk 3
    go_simp
    refine hK.out _ _ hT (fun hT => ?_)
    clear hK c1
    try go_frame
    refine wpAnyH_ready (rs := [6]) (by kernel_rfl) (by simp) ?_
    refine AllReadyH.cons rfl (fun K hK => ?_) AllReadyH.nil
    refine step_bs (q := q) rfl (.tmp 10) rfl rfl ?_
    have HG3 : Hid ((W2.alloc (.cells ([q].flatMap Nd.cells).toArray 52)).heap[W2.heap.size]? = some (.cells ([q].flatMap Nd.cells).toArray 52)) := alloc_block _ _
    have HBa : Hid (Below W2.heap.size W2 (W2.alloc (.cells ([q].flatMap Nd.cells).toArray 52))) := (Below.refl _ _).alloc (Nat.le_refl _) _
    have hTa : S6 w.heap.size q.cells.toArray (W2.alloc (.cells ([q].flatMap Nd.cells).toArray 52)) := block_on hT HBa.out
    refine hK.out _ _ hTa (fun _ => ?_)
    clear hK hT
    have hT := hTa
    clear hTa
    try go_frame
    replace HKc := hid (HKc.out.on HBa.out)
    replace HBw := hid (HBw.out.trans (HBa.out.mono HBw.out.size))
    replace HLc := hid (Nat.lt_of_lt_of_le HLc.out HBa.out.size)
    clear HBa
    obtain ⟨W3, hW3⟩ : ∃ V, W2.alloc (.cells ([q].flatMap Nd.cells).toArray 52) = V := ⟨_, rfl⟩
    obtain ⟨g3, hg3⟩ : ∃ g, W2.heap.size = g := ⟨_, rfl⟩
    rw [hW3] at HG3 hT HKc HBw HLc
    rw [hg3] at HG3
    change wpAnyH _ _ _ _ _ _ _ _ (W2.alloc (.cells ([q].flatMap Nd.cells).toArray 52))
    rw [hW3, hg3]
    clear hW3 hg3
    refine wpAnyH_ready (rs := [7]) (by kernel_rfl) (by simp) ?_
    refine AllReadyH.cons rfl (fun K hK => ?_) AllReadyH.nil
    refine step_appP (xs := qs) (ys := [q]) (v := .slice p ln c) (u := .slice (some ⟨g3, 0, none⟩) 1 1) elem_node nd_len (fun y hy => by simp at hy; subst hy; exact HQn.out.one) rfl (.tmp 9) (.tmp 11) rfl (by simp [Act.eval]) (by simp [Act.eval]) (B := B) HKc.out.own (Own.sl (Own.blk (e := 52) (B := 0) (xs := [q]) nd_len (Nat.zero_le _) HG3.out (by unfold maxLen; simp)) nd_len) (by simp) (by rw [HLn.out]; simp; omega) (by omega) (Nat.le_trans HK0.out.B_le HBw.out.size) ?_
    intro v' w3 hown hgr hat
    obtain ⟨hc1, hlp, hAt, hKp⟩ := lay_app HK0.out HBw.out hown hgr hat HQn.out (by rw [HLn.out]; exact HLl.out)
    have hT3 : S6 w.heap.size q.cells.toArray w3 := (hgr.block _ HLc.out (fun e1 => by have h1 : w.heap.size < w.heap.size := (HK0.out.own.at e1.symm).2; omega)).trans hT
    obtain ⟨pv, cv, rfl⟩ := hown.form
    have k3 : w3.cell? ⟨rb, 3, none⟩ = some (.slice p ln c) := block_cell hc1 3
    have f3 := block_frozen hc1 3
    have HLP := hid hlp
    have HAt := hid hAt
    have HKp := hid hKp
    have k5 := hlp.cell
    clear hlp hown hgr hat hT hAt hKp
    simp only [List.length_append, List.length_cons, List.length_nil, Nat.zero_add, HLn.out] at HLP HAt HKp k5 ⊢
    refine hK.out _ _ hT3 (fun hT => ?_)
    clear hK
    try go_frame
    refine wpAnyH_take (i := 8) (v := ?_) rfl (by kernel_rfl) (by kernel_rfl) (by kernel_rfl) (fun _ _ _ h => h) (Or.inl ⟨by rfl, ?_⟩) hT ?_
    rotate_left
    · intro w hSw
      go_simp
      try (with_reducible rfl)
    try go_frame
    refine wpAnyH_take (i := 9) (v := ?_) rfl (by kernel_rfl) (by kernel_rfl) (by kernel_rfl) (fun _ _ _ h => h) (Or.inl ⟨by rfl, ?_⟩) hT ?_
    rotate_left
    · intro w hSw
      go_simp
      try (with_reducible rfl)
    try go_frame
    refine wpAnyH_ready (rs := [10]) (by kernel_rfl) (by simp) ?_
    refine AllReadyH.cons rfl (fun K hK => ?_) AllReadyH.nil
    go_simp
    refine hK.out _ _ ((Below.heap_setCell _ _ _ _ HNb.out).trans hT3) (fun _ => ?_)
    refine wpAnyH_done (by kernel_rfl) ?_ _
    clear hK hT hT3 k3 f3
    go_wp2
    go_ret
    exact ⟨by rw [HLn.out]; rfl, _, HLP.out, HAt.out, HKp.out⟩
  · refine step_bs (q := q) rfl (.tmp 10) rfl rfl ?_
    have HG3 : Hid ((W2.alloc (.cells ([q].flatMap Nd.cells).toArray 52)).heap[W2.heap.size]? = some (.cells ([q].flatMap Nd.cells).toArray 52)) := alloc_block _ _
    have HBa : Hid (Below W2.heap.size W2 (W2.alloc (.cells ([q].flatMap Nd.cells).toArray 52))) := (Below.refl _ _).alloc (Nat.le_refl _) _
    have hTa : S6 w.heap.size q.cells.toArray (W2.alloc (.cells ([q].flatMap Nd.cells).toArray 52)) := block_on hT HBa.out
    refine hK.out _ _ hTa (fun _ => ?_)
    clear hK hT
    have hT := hTa
    clear hTa
    try go_frame
    replace HKc := hid (HKc.out.on HBa.out)
    replace HBw := hid (HBw.out.trans (HBa.out.mono HBw.out.size))
    replace HLc := hid (Nat.lt_of_lt_of_le HLc.out HBa.out.size)
    clear HBa
    obtain ⟨W3, hW3⟩ : ∃ V, W2.alloc (.cells ([q].flatMap Nd.cells).toArray 52) = V := ⟨_, rfl⟩
    obtain ⟨g3, hg3⟩ : ∃ g, W2.heap.size = g := ⟨_, rfl⟩
    rw [hW3] at HG3 hT HKc HBw HLc
    rw [hg3] at HG3
    change wpAnyH _ _ _ _ _ _ _ _ (W2.alloc (.cells ([q].flatMap Nd.cells).toArray 52))
    rw [hW3, hg3]
    clear hW3 hg3
    refine wpAnyH_ready (rs := [4]) (by kernel_rfl) (by simp) ?_
    refine AllReadyH.cons rfl (fun K hK => ?_) AllReadyH.nil
    have c1 : W3.cell? ⟨rb, 3, none⟩ = some (.slice p ln c) := block_cell HKc.out.blk 3
    go_simp
    refine hK.out _ _ hT (fun hT => ?_)
    clear hK c1
    try go_frame
    refine wpAnyH_ready (rs := [7]) (by kernel_rfl) (by simp) ?_
    refine AllReadyH.cons rfl (fun K hK => ?_) AllReadyH.nil
    refine step_appP (xs := qs) (ys := [q]) (v := .slice p ln c) (u := .slice (some ⟨g3, 0, none⟩) 1 1) elem_node nd_len (fun y hy => by simp at hy; subst hy; exact HQn.out.one) rfl (.tmp 9) (.tmp 11) rfl (by simp [Act.eval]) (by simp [Act.eval]) (B := B) HKc.out.own (Own.sl (Own.blk (e := 52) (B := 0) (xs := [q]) nd_len (Nat.zero_le _) HG3.out (by unfold maxLen; simp)) nd_len) (by simp) (by rw [HLn.out]; simp; omega) (by omega) (Nat.le_trans HK0.out.B_le HBw.out.size) ?_
    intro v' w3 hown hgr hat
    obtain ⟨hc1, hlp, hAt, hKp⟩ := lay_app HK0.out HBw.out hown hgr hat HQn.out (by rw [HLn.out]; exact HLl.out)
    have hT3 : S6 w.heap.size q.cells.toArray w3 := (hgr.block _ HLc.out (fun e1 => by have h1 : w.heap.size < w.heap.size := (HK0.out.own.at e1.symm).2; omega)).trans hT
    obtain ⟨pv, cv, rfl⟩ := hown.form
    have k3 : w3.cell? ⟨rb, 3, none⟩ = some (.slice p ln c) := block_cell hc1 3
    have f3 := block_frozen hc1 3
    have HLP := hid hlp
    have HAt := hid hAt
    have HKp := hid hKp
    have k5 := hlp.cell
    clear hlp hown hgr hat hT hAt hKp
    simp only [List.length_append, List.length_cons, List.length_nil, Nat.zero_add, HLn.out] at HLP HAt HKp k5 ⊢
    refine hK.out _ _ hT3 (fun hT => ?_)
    clear hK
    try go_frame
    refine wpAnyH_take (i := 8) (v := ?_) rfl (by kernel_rfl) (by kernel_rfl) (by kernel_rfl) (fun _ _ _ h => h) (Or.inl ⟨by rfl, ?_⟩) hT ?_
    rotate_left
    · intro w hSw
      go_simp
      try (with_reducible rfl)
    try go_frame
    refine wpAnyH_take (i := 9) (v := ?_) rfl (by kernel_rfl) (by kernel_rfl) (by kernel_rfl) (fun _ _ _ h => h) (Or.inl ⟨by rfl, ?_⟩) hT ?_
    rotate_left
    · intro w hSw
      go_simp
      try (with_reducible rfl)
    try go_frame
    refine wpAnyH_ready (rs := [10]) (by kernel_rfl) (by simp) ?_
    refine AllReadyH.cons rfl (fun K hK => ?_) AllReadyH.nil
    go_simp
    refine hK.out _ _ ((Below.heap_setCell _ _ _ _ HNb.out).trans hT3) (fun _ => ?_)
    refine wpAnyH_done (by kernel_rfl) ?_ _
    clear hK hT hT3 k3 f3
    go_wp2
    go_ret
    exact ⟨by rw [HLn.out]; rfl, _, HLP.out, HAt.out, HKp.out⟩
def EndP (ts : List Tp) (i : Nat) (qs : List Nd) (w : World) (e : Ending) (w' : World) : Prop :=
  Below w.heap.size w w' ∧ ((i < ts.length ∧ e = dies (faultV i 120)) ∨ (¬ i < ts.length ∧ 128 < qs.length ∧ e = dies (faultV 0 2)) ∨ (¬ i < ts.length ∧ ¬ 128 < qs.length ∧ e = .returned (.tuple #[])))
set_option maxRecDepth 100000 in
set_option maxHeartbeats 1000000 in
theorem end_any (h : Rq B ts w rb tv sv o i qs) : Calls Tryz.prog 49 #[dp rb] w (EndP ts i qs w) := by
  have HQ := hid h
  have k0 := h.cell
  obtain ⟨p, cap, rfl, hc1, hc2⟩ := h.tok.form
  obtain ⟨p2, c2, rfl⟩ := h.own.form
  unfold maxLen at hc2
  clear h
  generalize hln : ts.length = ln at *
  have HLn := hid hln
  generalize hqn : qs.length = qn at *
  have HQn := hid hqn
  clear hln hqn
  have hrl := HQ.out.lt
  by_cases hi : i < ln
  · have iI : (i : Int) < ln := by omega
    have HI := hid hi
    have iB : decide (i < ln) = true := by simp; omega
    clear hi
    go_enter Tryz.func49, Tryz.ntmps49
    go_upto_region 0 with fail
    go_quiet (fail)
    go_wp2_with (go_at_call 87; refine (fail_any (HQ.out.on (below_drewN (Below.refl _ _) _)) 120).mono ?_; rintro e w2 ⟨rfl, he⟩; replace he := he.symm; subst he)
    exact ⟨rfl, below_drewN (Below.refl _ _) _, .inl ⟨by rw [HLn.out]; exact HI.out, rfl⟩⟩
  · have iI : ¬ (i : Int) < ln := by omega
    have HI := hid hi
    have iB : decide (i < ln) = false := by simp; omega
    clear hi
    by_cases hq : 128 < qn
    · have qI : 128 < (qn : Int) := by omega
      have HJ := hid hq
      clear hq
      go_enter Tryz.func49, Tryz.ntmps49
      go_upto_region 0 with fail
      go_quiet (fail)
      go_wp2_with fail
      exact ⟨rfl, below_drewN (Below.refl _ _) _, .inr (.inl ⟨by rw [HLn.out]; exact HI.out, by rw [HQn.out]; exact HJ.out, rfl⟩)⟩
    · have qI : ¬ 128 < (qn : Int) := by omega
      have HJ := hid hq
      clear hq
      go_enter Tryz.func49, Tryz.ntmps49
      go_upto_region 0 with fail
      go_quiet (fail)
      go_wp2_with fail
      go_end0
      exact ⟨below_drewN (Below.refl _ _) _, .inr (.inr ⟨by rw [HLn.out]; exact HI.out, by rw [HQn.out]; exact HJ.out, rfl⟩)⟩
abbrev zNd : Array Value := #[.int .i64 0, .string ⟨#[]⟩, .int .i64 0, .int .i64 0, .int .i64 0, .int .i64 0, .int .i64 0, .string ⟨#[]⟩, .int .i64 0, .int .i64 0, .int .i64 0, .int .i64 0, .int .i64 0, .int .i64 0, .int .i64 0, .int .i64 0, .slice none 0 0, .slice none 0 0, .slice none 0 0]
def vNd (B : Nat) (w : World) (x : Np) (v : Value) : Prop := ∃ q : Nd, q.np = x ∧ v = .agg q.cells.toArray ∧ NdIn B w q
theorem store_nd {ops : Array Oper} {rest : List Oper} {op : Oper} {a : Act} {w : World} {Q : Exit → Act → World → Prop} (hgd : op.guard = none) (x y : Operand) (ho : op.op = .store 52 x y) {g : Nat} {q : Nd} (hx : a.eval x = dp g) (hy : a.eval y = .agg q.cells.toArray) (h1 : q.cells.toArray.all (·.oneCell') = true) {old : Array Value} (hg : w.heap[g]? = some (.cells old 52 (0, 0))) (hs : old.size = 19)
    (h : ∀ w', w'.heap[g]? = some (.cells q.cells.toArray 52 (0, 0)) → Kp (fun k => k = g) w w' → wpList Tryz.prog ops Q rest (a.put op.dst undef) w') : wpList Tryz.prog ops Q (op :: rest) a w :=
  wpList_store_row hgd 52 x y ho hx hy hg size_node (by rw [hs]; rfl) h1 (fun w' h1 h2 _ => h w' h1 h2)
theorem load_nd {ops : Array Oper} {rest : List Oper} {op : Oper} {a : Act} {w : World} {Q : Exit → Act → World → Prop} (hgd : op.guard = none) (x : Operand) (ho : op.op = .load 52 x) {g : Nat} {q : Nd} (hx : a.eval x = dp g) (hg : w.heap[g]? = some (.cells q.cells.toArray 52 (0, 0)))
    (h : wpList Tryz.prog ops Q rest (a.put op.dst (.agg q.cells.toArray)) w) : wpList Tryz.prog ops Q (op :: rest) a w :=
  wpList_load_mid hgd 52 x ho g 0 hx q.cells _ (s6_range hg) Tryz.underlying52 rfl size_node h
/- A node without rows. -/
abbrev bare (n : Np) : Nd := ⟨n, .slice none 0 0, .slice none 0 0, .slice none 0 0⟩
theorem bare_in (B : Nat) (w : World) {n : Np} (h1 : n.l = []) (h2 : n.names = []) (h3 : n.aggs = []) : NdIn B w (bare n) := by
  refine ⟨?_, ?_, ?_⟩
  · show Own _ _ _ _ _ _ n.l; rw [h1]; exact Own.nil _ _ _ _ _
  · show Own _ _ _ _ _ _ n.names; rw [h2]; exact Own.nil _ _ _ _ _
  · show Own _ _ _ _ _ _ n.aggs; rw [h3]; exact Own.nil _ _ _ _ _
theorem bare_all (n : Np) : (bare n).cells.toArray.all (·.oneCell') = true := by simp [Nd.cells, Value.oneCell']
set_option maxRecDepth 100000 in
set_option maxHeartbeats 2000000 in
theorem test_any (h : Rq B ts w rb tv sv o i qs) : Calls Tryz.prog 122 #[dp rb] w (P1 B ts rb tv sv o qs w (vNd B) (testS ts i)) := by
  have HB0 : Hid (Below w.heap.size w (w.alloc (.cells zNd 52))) := (Below.refl _ _).alloc (Nat.le_refl _) _
  have HZ := hid (alloc_block w (.cells zNd 52))
  have HQ0 := hid (h.on HB0.out)
  have HR0 := hid h
  have hrl := h.lt
  generalize hW : w.alloc (.cells zNd 52) = w1 at *
  have HW := hid hW
  clear h hW
  go_enter Tryz.func122, Tryz.ntmps122
  go_upto_region 1 with fail
  rw [HW.out]
  go_wp2_with (first
    | (go_at_call 89; refine (name_any HQ0.out).mono ?_; rintro e w2 ⟨hk, ⟨j, c, hr, rfl⟩ | ⟨s, j, v, hr, rfl, rfl, hq⟩⟩; (focus (go_wp2_with fail; exact ⟨rfl, P1.bad ((Kp.of HB0.out).trans hk) (by simp [testS, hr, Rs.and])⟩)); have HK2 := hid ((Kp.of HB0.out).trans hk); have HQ2 := hid hq; have HR2 := hid hr; have HZ2 := hid (hk.blk HZ.out (fun e => by omega)); clear hk hq hr)
    | (go_at_call 52; refine (skip_any HQ2.out wHas).mono ?_; rintro e w3 ⟨rfl, hq, hk⟩; have HK3 := hid (HK2.out.trans hk); have HZ3 := hid (hk.blk HZ2.out (fun e => by omega)); have HQ3 := hid hq; clear hq hk;
        cases hw : isW ts j wHas with
        | true =>
          rw [hw] at HQ3
          have C := hid hw
          clear hw
          go_wp2_with (first
            | (go_at_call 142; refine (txt_any HQ3.out).mono ?_; rintro e w4 ⟨hk, ⟨j2, c, hr, rfl⟩ | ⟨x, j2, v, hr, rfl, rfl, hq⟩⟩; (focus (go_wp2_with fail; exact ⟨rfl, P1.bad (HK3.out.trans hk) (by simp only [if_true] at hr; simp [testS, HR2.out, C.out, hr, Rs.and])⟩)); have HK4 := hid (HK3.out.trans hk); have HQ4 := hid hq; have HR4 := hid hr; have HZ4 := hid (hk.blk HZ3.out (fun e => by omega)); clear hk hq hr)
            | (refine store_nd (q := bare { n0 with kind := 15, s := s, vk := x.1, vn := x.2.1, vs := x.2.2 }) rfl _ _ rfl rfl rfl (bare_all _) HZ4.out rfl ?_; intro w5 h5 k5; have H5 := hid h5; have K5 := hid k5; clear h5 k5))
          obtain ⟨a, b⟩ := val_back HR0.out HQ4.out HK4.out K5.out
          exact ret_nd rfl rfl H5.out rfl rfl ⟨b, .inr ⟨_, j2, _, by have hr := HR4.out; simp only [if_true] at hr; simp [testS, HR2.out, C.out, hr, Rs.and], rfl, ⟨_, rfl, rfl, bare_in _ _ rfl rfl rfl⟩, a⟩⟩
        | false =>
          rw [hw] at HQ3
          have C := hid hw
          clear hw
          go_wp2_with (first
            | (go_at_call 143; refine (how_any HQ3.out).mono ?_; rintro e w4 ⟨hk, ⟨j2, c, hr, rfl⟩ | ⟨x, j2, v, hr, rfl, rfl, hq⟩⟩; (focus (go_wp2_with fail; exact ⟨rfl, P1.bad (HK3.out.trans hk) (how_bad HR2.out C.out hr)⟩)); have HK4 := hid (HK3.out.trans hk); have HQ4 := hid hq; have HR4 := hid hr; have HZ4 := hid (hk.blk HZ3.out (fun e => by omega)); clear hk hq hr)
            | (go_at_call 144; refine (value_any HQ4.out).mono ?_; rintro e w5 ⟨hk, ⟨j3, c, hr, rfl⟩ | ⟨y, j3, v, hr, rfl, rfl, hq⟩⟩; (focus (go_wp2_with fail; exact ⟨rfl, P1.bad (HK4.out.trans hk) (value_bad HR2.out C.out HR4.out hr)⟩)); have HK5 := hid (HK4.out.trans hk); have HQ5 := hid hq; have HR5 := hid hr; have HZ5 := hid (hk.blk HZ4.out (fun e => by omega)); clear hk hq hr)
            | (refine store_nd (q := bare { n0 with kind := 14, s := s, n := x, vk := y.1, vn := y.2.1, vs := y.2.2 }) rfl _ _ rfl rfl rfl (bare_all _) HZ5.out rfl ?_; intro w6 h6 k6; have H6 := hid h6; have K6 := hid k6; clear h6 k6))
          obtain ⟨a, b⟩ := val_back HR0.out HQ5.out HK5.out K6.out
          exact ret_nd rfl rfl H6.out rfl rfl ⟨b, .inr ⟨_, j3, _, value_ok HR2.out C.out HR4.out HR5.out, rfl, ⟨_, rfl, rfl, bare_in _ _ rfl rfl rfl⟩, a⟩⟩))
end
end Go.Proofs.YtomnjckbgmbgmaaGreatDoor
