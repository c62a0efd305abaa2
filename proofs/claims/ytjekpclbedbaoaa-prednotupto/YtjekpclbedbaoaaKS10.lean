/-
  The reference's reader lays a node.
  The reference's reader takes a token of a kind.
  The reference's reader takes a value.
  The reference's reader takes names.
-/
import Derived.Test.YtjekpclbedbaoaaKS09
namespace Go.Proofs.Ytjekpclbedbaoaa
open Go.RowKit Go.Joins

section
variable {B : Nat} {ts : List Tp} {w w' : World} {rb : Nat} {tv sv : Value} {E : Int} {o i : Nat} {qs : List Nd}
theorem Ry.B_le (h : Ry B ts w rb tv sv E o i qs) : B ≤ w.heap.size := by have := h.bB; have := h.lt; omega
theorem rlay_app {W w3 : World} {v' : Value} {q : Nd} (h : Ry B ts w rb tv sv 0 o i qs) (hb : Below w.heap.size w W) (hown : Own Nd.cells 19 44 B w3 v' (qs ++ [q])) (hgr : W.grownBy w3 sv.ownBlock) (hat : At W sv v') (hq : NdIn B w q) (hl : qs.length + 1 ≤ i) :
    w3.heap[rb]? = some (.cells #[tv, .int .i64 (i : Int), sv, .int .i64 0, .int .i64 (o : Int)] 72 (0, 0)) ∧ Ry B ts (w3.setCell ⟨rb, 2, none⟩ v') rb tv v' 0 o i (qs ++ [q]) ∧ At w sv v' ∧ Kp (Tq rb sv) w (w3.setCell ⟨rb, 2, none⟩ v') := by
  have h2 := h.on hb
  have k3 : Kp (fun k => sv.ownBlock = some k) W w3 := Kp.grown hgr (fun k e => e)
  have c1 := k3.blk h2.blk (fun e => h.ne _ e rfl)
  have ks : Kp (fun k => k = rb) w3 (w3.setCell ⟨rb, 2, none⟩ v') := Kp.set (T := fun k => k = rb) rfl _
  have hall : Kp (Tq rb sv) w (w3.setCell ⟨rb, 2, none⟩ v') := ((Kp.of hb).trans' k3 (fun i _ e => .inr e)).trans' ks (fun i _ e => .inl e)
  have ho := hown.kp ks (fun k e e2 => by subst e2; obtain ⟨c, fz, hc⟩ := hown.kind e; rw [c1] at hc; cases hc)
  refine ⟨c1, ⟨h.bB, ?_, ho, ?_, ?_, h.il, h.tl, by simp; omega, h.ol⟩, ?_, hall⟩
  · have := block_set c1 2 v'; simpa using this
  · intro x hx
    rcases List.mem_append.1 hx with hx | hx
    · exact (h.each x hx).kp hall h.tk
    · simp at hx; subst hx; exact hq.kp hall h.tk
  · exact h.tok.kp hall (fun b hb hT => by have := h.T_ge b hT; omega)
  · exact fun k hk => (hat k hk).imp id (fun e => Nat.le_trans hb.size e)
/- What a row of nodes is after lay. -/
def YyP (B : Nat) (ts : List Tp) (rb : Nat) (tv sv : Value) (o i : Nat) (qs : List Nd) (w : World) (q : Nd) (e : Ending) (w' : World) : Prop :=
  e = .returned (.int .i64 (qs.length : Int)) ∧ ∃ sv', Ry B ts w' rb tv sv' 0 o i (qs ++ [q]) ∧ At w sv sv' ∧ Kp (Tq rb sv) w w'
set_option maxRecDepth 100000 in
set_option maxHeartbeats 4000000 in
theorem rlay_ok (h : Ry B ts w rb tv sv 0 o i qs) {q : Nd} (hq : NdIn B w q) (hl : qs.length + 1 ≤ i) : Calls Try.prog 56 #[dp rb, .agg q.cells.toArray] w (YyP B ts rb tv sv o i qs w q) := by
  obtain ⟨p, c, rfl⟩ := h.own.form
  have HK0 := hid h
  have HB : Hid (Below w.heap.size w (w.alloc (.cells q.cells.toArray 44 (0, 0)))) := (Below.refl _ _).alloc (Nat.le_refl _) _
  have HK := hid (h.on HB.out)
  have HQn := hid hq
  have HAll := hid hq.all
  have HLl := hid hl
  have hS0 : S6 w.heap.size q.cells.toArray (w.alloc (.cells q.cells.toArray 44 (0, 0))) := alloc_block w _
  have k0 := HK.out.cell
  have HLq : Hid (w.heap.size < (w.alloc (.cells q.cells.toArray 44 (0, 0))).heap.size) := by show _ < _; simp
  have hq1024 : (qs.length : Int) ≤ 1024 := by have := h.ql; have := h.il; have := h.tl; omega
  generalize hW : w.alloc (.cells q.cells.toArray 44 (0, 0)) = w1 at *
  have HW := hid hW
  have HSb := hid hS0
  clear h hW hq hl
  generalize hln : qs.length = ln at *
  have HLn := hid hln
  clear hln
  have HNb : Hid (w.heap.size ≠ rb) := fun e1 => by have := lt_of_block HK0.out.blk; omega
  go_enter Try.func56, Try.ntmps56
  go_upto_region 1 with fail
  rw [HW.out]
  go_upto_region 2 with fail
  refine wp_region_held_drew (S := S6 w.heap.size q.cells.toArray) (by kernel_rfl) hS0 (fun hT => ?_)
  refine wpAnyH_take (i := 0) (v := ?_) rfl (by kernel_rfl) (by kernel_rfl) (by kernel_rfl) (fun _ _ _ h => h) (Or.inl ⟨by rfl, ?_⟩) hT ?_
  rotate_left
  · intro w hSw
    go_simp
    try (with_reducible rfl)
  try go_frame
  refine wpAnyH_take (i := 1) (v := ?_) rfl (by kernel_rfl) (by kernel_rfl) (by kernel_rfl) (fun _ _ _ h => h) (Or.inl ⟨by rfl, ?_⟩) hT ?_
  rotate_left
  · intro w hSw
    go_simp
    try (with_reducible rfl)
  try go_frame
  refine wpAnyH_take (i := 2) (v := ?_) rfl (by kernel_rfl) (by kernel_rfl) (by kernel_rfl) (fun _ _ _ h => h) (Or.inl ⟨by rfl, ?_⟩) hT ?_
  rotate_left
  · intro w hSw
    go_simp
    try (with_reducible rfl)
  try go_frame
  refine wpAnyH_take (i := 3) (v := ?_) rfl (by kernel_rfl) (by kernel_rfl) (by kernel_rfl) (fun _ _ _ h => h) (Or.inl ⟨by rfl, ?_⟩) hT ?_
  rotate_left
  · intro w hSw
    go_simp
    try (with_reducible rfl)
  try go_frame
  refine wpAnyH_take (i := 5) (v := .agg q.cells.toArray) rfl (by kernel_rfl) (by kernel_rfl) (by kernel_rfl) (fun _ _ _ h => h) (yieldsIf_load_mid (by rfl) 44 (.tmp 3) rfl w.heap.size 0 rfl q.cells _ (fun _ h => s6_range h) Try.underlying44 rfl size_node) hT ?_
  try go_frame
  have HKc : Hid (Ry B ts w1.drew rb tv (.slice p ln c) 0 o i qs) := HK.out.on (Below.refl _ _).drew
  have HBw : Hid (Below w.heap.size w w1.drew) := HB.out.drew
  have HLc : Hid (w.heap.size < w1.drew.heap.size) := HLq.out
  generalize w1.drew = W2 at *
  clear k0 hS0
  refine wpAnyH_ready (rs := [4, 6]) (by kernel_rfl) (by simp) ?_
  refine AllReadyH.cons rfl (fun K hK => ?_) (AllReadyH.cons rfl (fun K hK => ?_) AllReadyH.nil)
  · have c1 : W2.cell? ⟨rb, 2, none⟩ = some (.slice p ln c) := block_cell HKc.out.blk 2
    go_simp
    refine hK.out _ _ hT (fun hT => ?_)
    clear hK c1
    try go_frame
    refine wpAnyH_ready (rs := [6]) (by kernel_rfl) (by simp) ?_
    refine AllReadyH.cons rfl (fun K hK => ?_) AllReadyH.nil
    refine step_bs (q := q) rfl (.tmp 15) rfl rfl ?_
    have HG3 : Hid ((W2.alloc (.cells ([q].flatMap Nd.cells).toArray 44)).heap[W2.heap.size]? = some (.cells ([q].flatMap Nd.cells).toArray 44)) := alloc_block _ _
    have HBa : Hid (Below W2.heap.size W2 (W2.alloc (.cells ([q].flatMap Nd.cells).toArray 44))) := (Below.refl _ _).alloc (Nat.le_refl _) _
    have hTa : S6 w.heap.size q.cells.toArray (W2.alloc (.cells ([q].flatMap Nd.cells).toArray 44)) := block_on hT HBa.out
    refine hK.out _ _ hTa (fun _ => ?_)
    clear hK hT
    have hT := hTa
    clear hTa
    try go_frame
    replace HKc := hid (HKc.out.on HBa.out)
    replace HBw := hid (HBw.out.trans (HBa.out.mono HBw.out.size))
    replace HLc := hid (Nat.lt_of_lt_of_le HLc.out HBa.out.size)
    clear HBa
    obtain ⟨W3, hW3⟩ : ∃ V, W2.alloc (.cells ([q].flatMap Nd.cells).toArray 44) = V := ⟨_, rfl⟩
    obtain ⟨g3, hg3⟩ : ∃ g, W2.heap.size = g := ⟨_, rfl⟩
    rw [hW3] at HG3 hT HKc HBw HLc
    rw [hg3] at HG3
    change wpAnyH _ _ _ _ _ _ _ _ (W2.alloc (.cells ([q].flatMap Nd.cells).toArray 44))
    rw [hW3, hg3]
    clear hW3 hg3
    refine wpAnyH_ready (rs := [7]) (by kernel_rfl) (by simp) ?_
    refine AllReadyH.cons rfl (fun K hK => ?_) AllReadyH.nil
    refine step_appP (xs := qs) (ys := [q]) (v := .slice p ln c) (u := .slice (some ⟨g3, 0, none⟩) 1 1) elem_node nd_len (fun y hy => by simp at hy; subst hy; exact HQn.out.one) rfl (.tmp 14) (.tmp 16) rfl (by simp [Act.eval]) (by simp [Act.eval]) (B := B) HKc.out.own (Own.sl (Own.blk (e := 44) (B := 0) (xs := [q]) nd_len (Nat.zero_le _) HG3.out (by unfold maxLen; simp)) nd_len) (by simp) (by rw [HLn.out]; simp; omega) (by omega) (Nat.le_trans HK0.out.B_le HBw.out.size) ?_
    intro v' w3 hown hgr hat
    obtain ⟨hc1, hlp, hAt, hKp⟩ := rlay_app HK0.out HBw.out hown hgr hat HQn.out (by rw [HLn.out]; exact HLl.out)
    have hT3 : S6 w.heap.size q.cells.toArray w3 := (hgr.block _ HLc.out (fun e1 => by have h1 : w.heap.size < w.heap.size := (HK0.out.own.at e1.symm).2; omega)).trans hT
    obtain ⟨pv, cv, rfl⟩ := hown.form
    have k3 : w3.cell? ⟨rb, 2, none⟩ = some (.slice p ln c) := block_cell hc1 2
    have f3 := block_frozen hc1 2
    have HLP := hid hlp
    have HAt := hid hAt
    have HKp := hid hKp
    have k5 := hlp.cell
    clear hlp hown hgr hat hT hAt hKp
    simp only [List.length_append, List.length_cons, List.length_nil, Nat.zero_add, HLn.out] at HLP HAt HKp k5 ⊢
    refine hK.out _ _ hT3 (fun hT => ?_)
    clear hK
    try go_frame
    refine wpAnyH_take (i := 8) (v := ?_) rfl (by kernel_rfl) (by kernel_rfl) (by kernel_rfl) (fun _ _ _ h => h) (Or.inl ⟨by rfl, ?_⟩) hT ?_
    rotate_left
    · intro w hSw
      go_simp
      try (with_reducible rfl)
    try go_frame
    refine wpAnyH_take (i := 9) (v := ?_) rfl (by kernel_rfl) (by kernel_rfl) (by kernel_rfl) (fun _ _ _ h => h) (Or.inl ⟨by rfl, ?_⟩) hT ?_
    rotate_left
    · intro w hSw
      go_simp
      try (with_reducible rfl)
    try go_frame
    refine wpAnyH_ready (rs := [10]) (by kernel_rfl) (by simp) ?_
    refine AllReadyH.cons rfl (fun K hK => ?_) AllReadyH.nil
    go_simp
    refine hK.out _ _ ((Below.heap_setCell _ _ _ _ HNb.out).trans hT3) (fun _ => ?_)
    refine wpAnyH_done (by kernel_rfl) ?_ _
    clear hK hT hT3 k3 f3
    go_wp2
    go_ret
    exact ⟨by rw [HLn.out]; rfl, _, HLP.out, HAt.out, HKp.out⟩
  · refine step_bs (q := q) rfl (.tmp 15) rfl rfl ?_
    have HG3 : Hid ((W2.alloc (.cells ([q].flatMap Nd.cells).toArray 44)).heap[W2.heap.size]? = some (.cells ([q].flatMap Nd.cells).toArray 44)) := alloc_block _ _
    have HBa : Hid (Below W2.heap.size W2 (W2.alloc (.cells ([q].flatMap Nd.cells).toArray 44))) := (Below.refl _ _).alloc (Nat.le_refl _) _
    have hTa : S6 w.heap.size q.cells.toArray (W2.alloc (.cells ([q].flatMap Nd.cells).toArray 44)) := block_on hT HBa.out
    refine hK.out _ _ hTa (fun _ => ?_)
    clear hK hT
    have hT := hTa
    clear hTa
    try go_frame
    replace HKc := hid (HKc.out.on HBa.out)
    replace HBw := hid (HBw.out.trans (HBa.out.mono HBw.out.size))
    replace HLc := hid (Nat.lt_of_lt_of_le HLc.out HBa.out.size)
    clear HBa
    obtain ⟨W3, hW3⟩ : ∃ V, W2.alloc (.cells ([q].flatMap Nd.cells).toArray 44) = V := ⟨_, rfl⟩
    obtain ⟨g3, hg3⟩ : ∃ g, W2.heap.size = g := ⟨_, rfl⟩
    rw [hW3] at HG3 hT HKc HBw HLc
    rw [hg3] at HG3
    change wpAnyH _ _ _ _ _ _ _ _ (W2.alloc (.cells ([q].flatMap Nd.cells).toArray 44))
    rw [hW3, hg3]
    clear hW3 hg3
    refine wpAnyH_ready (rs := [4]) (by kernel_rfl) (by simp) ?_
    refine AllReadyH.cons rfl (fun K hK => ?_) AllReadyH.nil
    have c1 : W3.cell? ⟨rb, 2, none⟩ = some (.slice p ln c) := block_cell HKc.out.blk 2
    go_simp
    refine hK.out _ _ hT (fun hT => ?_)
    clear hK c1
    try go_frame
    refine wpAnyH_ready (rs := [7]) (by kernel_rfl) (by simp) ?_
    refine AllReadyH.cons rfl (fun K hK => ?_) AllReadyH.nil
    refine step_appP (xs := qs) (ys := [q]) (v := .slice p ln c) (u := .slice (some ⟨g3, 0, none⟩) 1 1) elem_node nd_len (fun y hy => by simp at hy; subst hy; exact HQn.out.one) rfl (.tmp 14) (.tmp 16) rfl (by simp [Act.eval]) (by simp [Act.eval]) (B := B) HKc.out.own (Own.sl (Own.blk (e := 44) (B := 0) (xs := [q]) nd_len (Nat.zero_le _) HG3.out (by unfold maxLen; simp)) nd_len) (by simp) (by rw [HLn.out]; simp; omega) (by omega) (Nat.le_trans HK0.out.B_le HBw.out.size) ?_
    intro v' w3 hown hgr hat
    obtain ⟨hc1, hlp, hAt, hKp⟩ := rlay_app HK0.out HBw.out hown hgr hat HQn.out (by rw [HLn.out]; exact HLl.out)
    have hT3 : S6 w.heap.size q.cells.toArray w3 := (hgr.block _ HLc.out (fun e1 => by have h1 : w.heap.size < w.heap.size := (HK0.out.own.at e1.symm).2; omega)).trans hT
    obtain ⟨pv, cv, rfl⟩ := hown.form
    have k3 : w3.cell? ⟨rb, 2, none⟩ = some (.slice p ln c) := block_cell hc1 2
    have f3 := block_frozen hc1 2
    have HLP := hid hlp
    have HAt := hid hAt
    have HKp := hid hKp
    have k5 := hlp.cell
    clear hlp hown hgr hat hT hAt hKp
    simp only [List.length_append, List.length_cons, List.length_nil, Nat.zero_add, HLn.out] at HLP HAt HKp k5 ⊢
    refine hK.out _ _ hT3 (fun hT => ?_)
    clear hK
    try go_frame
    refine wpAnyH_take (i := 8) (v := ?_) rfl (by kernel_rfl) (by kernel_rfl) (by kernel_rfl) (fun _ _ _ h => h) (Or.inl ⟨by rfl, ?_⟩) hT ?_
    rotate_left
    · intro w hSw
      go_simp
      try (with_reducible rfl)
    try go_frame
    refine wpAnyH_take (i := 9) (v := ?_) rfl (by kernel_rfl) (by kernel_rfl) (by kernel_rfl) (fun _ _ _ h => h) (Or.inl ⟨by rfl, ?_⟩) hT ?_
    rotate_left
    · intro w hSw
      go_simp
      try (with_reducible rfl)
    try go_frame
    refine wpAnyH_ready (rs := [10]) (by kernel_rfl) (by simp) ?_
    refine AllReadyH.cons rfl (fun K hK => ?_) AllReadyH.nil
    go_simp
    refine hK.out _ _ ((Below.heap_setCell _ _ _ _ HNb.out).trans hT3) (fun _ => ?_)
    refine wpAnyH_done (by kernel_rfl) ?_ _
    clear hK hT hT3 k3 f3
    go_wp2
    go_ret
    exact ⟨by rw [HLn.out]; rfl, _, HLP.out, HAt.out, HKp.out⟩
set_option maxRecDepth 100000 in
set_option maxHeartbeats 1000000 in
theorem rlay_bad (h : Ry B ts w rb tv sv E o i qs) (q : Nd) (hE : ¬ E = 0) : Calls Try.prog 56 #[dp rb, .agg q.cells.toArray] w fun e w' => e = .returned (.int .i64 ((qs.length : Int) - 1)) ∧ Below w.heap.size w w' := by
  obtain ⟨p, c, rfl⟩ := h.own.form
  have HB : Hid (Below w.heap.size w (w.alloc (.cells q.cells.toArray 44 (0, 0)))) := (Below.refl _ _).alloc (Nat.le_refl _) _
  have k0 := (h.on HB.out).cell
  have hq1024 : (qs.length : Int) ≤ 1024 := by have := h.ql; have := h.il; have := h.tl; omega
  have hq0 : (0 : Int) ≤ qs.length := by omega
  have bE : (E == 0) = false := by simp [hE]
  generalize hW : w.alloc (.cells q.cells.toArray 44 (0, 0)) = w1 at *
  have HW := hid hW
  clear h hW hE
  generalize qs.length = ln at *
  go_enter Try.func56, Try.ntmps56
  go_upto_region 1 with fail
  rw [HW.out]
  go_wp2_with fail
  go_ret
  exact ⟨rfl, HB.out⟩
def Cm2 (r : Rs (Nat × List Np)) (z : Int) (ns : List Np) (i : Nat) (E : Int) : Prop := (r = .bad i E ∧ ¬ E = 0) ∨ (∃ a : Nat, z = a ∧ r = .ok (a, ns) i ∧ E = 0)
/- What one that lays nodes comes to. -/
def Y2 (B : Nat) (ts : List Tp) (rb : Nat) (tv sv : Value) (o : Nat) (w : World) (r : Rs (Nat × List Np)) (e : Ending) (w' : World) : Prop :=
  Kp (Tq rb sv) w w' ∧ ∃ (z : Int) (E : Int) (i : Nat) (sv' : Value) (qs' : List Nd), e = .returned (.int .i64 z) ∧ (-1 ≤ z ∧ z ≤ 1024) ∧ Ry B ts w' rb tv sv' E o i qs' ∧ At w sv sv' ∧ Cm2 r z (qs'.map (·.np)) i E
theorem rlay_any (h : Ry B ts w rb tv sv E o i qs) {q : Nd} (hq : NdIn B w q) (hl : E = 0 → qs.length + 1 ≤ i) : Calls Try.prog 56 #[dp rb, .agg q.cells.toArray] w (Y2 B ts rb tv sv o w (lf E i (.ok (qs.length, qs.map (·.np) ++ [q.np]) i))) := by
  have hq1024 : qs.length ≤ 1024 := by have := h.ql; have := h.il; have := h.tl; omega
  by_cases hE : E = 0
  · subst hE
    refine (rlay_ok h hq (hl rfl)).mono ?_
    rintro e w1 ⟨rfl, sv', hr, hat, hk⟩
    exact ⟨hk, _, 0, i, sv', _, rfl, by omega, hr, hat, .inr ⟨_, rfl, by simp [lf], rfl⟩⟩
  · refine (rlay_bad h q hE).mono ?_
    rintro e w1 ⟨rfl, hb⟩
    exact ⟨Kp.of hb, _, E, i, sv, qs, rfl, by omega, h.on hb, At.refl _ _, .inl ⟨if_neg hE, hE⟩⟩
end
end Go.Proofs.Ytjekpclbedbaoaa
namespace Go.Proofs.Ytjekpclbedbaoaa
open Go.RowKit Go.Joins

section
variable {B : Nat} {ts : List Tp} {w w' : World} {rb : Nat} {tv sv : Value} {E : Int} {o i : Nat} {qs : List Nd}
theorem kp_set4e (g : Nat) (w : World) (d0 d1 d2 d3 : Value) : Kp (fun k => k = g) w (set4 w g d0 d1 d2 d3) :=
  (((Kp.set (T := fun k => k = g) rfl _).trans (Kp.set (T := fun k => k = g) rfl _)).trans (Kp.set (T := fun k => k = g) rfl _)).trans (Kp.set (T := fun k => k = g) rfl _)
theorem Ry.back {w1 w2 : World} {E' : Int} {j o' : Nat} (h0 : Ry B ts w rb tv sv E o i qs) (h1 : Ry B ts w1 rb tv sv E' o' j qs) (hk : Kp (fun k => k = rb) w w1) (h2 : Kp (fun k => k = w.heap.size) w1 w2) (hs : ∃ c t fz, w1.heap[w.heap.size]? = some (.cells c t fz) ∧ t ≠ 3 ∧ t ≠ 9 ∧ t ≠ 184) : Ry B ts w2 rb tv sv E' o' j qs ∧ Kp (fun k => k = rb) w w2 := by
  obtain ⟨c, t, fz, hc, ht⟩ := hs
  refine ⟨h1.kp h2 (fun k hk e => ?_) (fun k e c' t' fz' hc' => ?_) (fun k e => ?_), hk.trans' h2 (fun k hk e => by omega)⟩
  · have := h0.T_lt k hk; omega
  · rw [e, hc] at hc'; cases hc'; exact ht
  · have := h0.B_le; omega
set_option maxRecDepth 100000 in
set_option maxHeartbeats 2000000 in
theorem rkind_bad (h : Ry B ts w rb tv sv E o i qs) (k : Int) (hb : ¬ E = 0 ∨ (E = 0 ∧ isK ts i k = false)) : Calls Try.prog 94 #[dp rb, .int .i64 k] w fun e w' => e = .returned (TkV ⟨0, [], 0, 0⟩) ∧ Ry B ts w' rb tv sv (erS E 120) o i qs ∧ Kp (fun k => k = rb) w w' := by
  have HB0 : Hid (Below w.heap.size w (w.alloc (.cells zTk 67))) := (Below.refl _ _).alloc (Nat.le_refl _) _
  have HZ := hid (alloc_block w (.cells zTk 67))
  have HQ := hid (h.on HB0.out)
  have k0 := HQ.out.cell
  have HR0 := hid h
  have hne : ¬ rb = w.heap.size := by have := h.lt; omega
  have hil := h.il
  have htl := h.tl
  have HT := hid HQ.out.tok
  obtain ⟨p, cap, rfl, hc1, hc2⟩ := h.tok.form
  unfold maxLen at hc2
  have i0 : (0 : Int) ≤ i := by omega
  generalize hW : w.alloc (.cells zTk 67) = w1 at *
  have HW := hid hW
  clear h hW
  have fin : ∀ (nq : Nat), Hid (Calls Try.prog 57 #[dp rb] (w1.drewN nq) fun e w' => e = .returned (.tuple #[]) ∧ Ry B ts w' rb (.slice p ts.length cap) sv (erS E 120) o i qs ∧ Kp (fun k => k = rb) (w1.drewN nq) w') := fun nq => rfail_any (HQ.out.on (below_drewN (Below.refl _ w1) nq))
  have HF := hid fin
  clear fin
  generalize hln : ts.length = ln at *
  have HLn := hid hln
  clear hln
  rcases hb with hE | ⟨rfl, hk⟩
  · have bE : (E != 0) = true := by simp [hE]
    clear HT hE
    go_enter Try.func94, Try.ntmps94
    go_upto_region 1 with fail
    rw [HW.out]
    go_quiet (fail)
    go_wp2_with (go_at_call 57; refine (HF.out _).out.mono ?_; rintro e w2 ⟨rfl, hq, hk⟩; have HQ2 := hid hq; have HK2 := hid hk; have HZ2 := hid (hk.blk (show (w1.drewN _).heap[w.heap.size]? = some (.cells zTk 67) from HZ.out) (fun e => hne e.symm)); have kz := block_cell HZ2.out; have zz := block_frozen HZ2.out; clear hq hk)
    obtain ⟨a, b⟩ := HR0.out.back HQ2.out ((Kp.of (below_drewN HB0.out _)).trans HK2.out) (kp_set4e w.heap.size _ (.int .i64 0) (.string ⟨#[]⟩) (.int .i64 0) (.int .i64 0)) ⟨_, _, _, HZ2.out, by decide⟩
    exact ret_tok rfl rfl (Bx.set4 HZ2.out _ _ _ _) rfl rfl ⟨rfl, a, b⟩
  · by_cases hi : i < ln
    · obtain ⟨g, og, rfl, hg, hc⟩ := HT.out.at (j := i) (List.getElem?_eq_getElem (by have := HLn.out; omega))
      have hkk : ¬ (ts[i]'(by have := HLn.out; omega)).kind = k := by
        intro e; unfold isK at hk; rw [List.getElem?_eq_getElem (by have := HLn.out; omega)] at hk; simp [e] at hk
      generalize ts[i]'(by have := HLn.out; omega) = t at *
      have e0 : w1.cell? ⟨g, og + i * 4, none⟩ = some (.int .i64 t.kind) := hc 0 _ rfl
      have bk : (t.kind != k) = true := by simp [hkk]
      have iI : (i : Int) < ln := by omega
      have dI : decide ((i : Int) ≥ ln) = false := by simp; omega
      have d2 : decide ((ln : Int) ≤ i) = false := by simp; omega
      clear hc hg HT hk hkk
      go_enter Try.func94, Try.ntmps94
      go_upto_region 1 with fail
      rw [HW.out]
      go_quiet (fail)
      go_wp2_with (go_at_call 57; refine (HF.out _).out.mono ?_; rintro e w2 ⟨rfl, hq, hk⟩; have HQ2 := hid hq; have HK2 := hid hk; have HZ2 := hid (hk.blk (show (w1.drewN _).heap[w.heap.size]? = some (.cells zTk 67) from HZ.out) (fun e => hne e.symm)); have kz := block_cell HZ2.out; have zz := block_frozen HZ2.out; clear hq hk)
      obtain ⟨a, b⟩ := HR0.out.back HQ2.out ((Kp.of (below_drewN HB0.out _)).trans HK2.out) (kp_set4e w.heap.size _ (.int .i64 0) (.string ⟨#[]⟩) (.int .i64 0) (.int .i64 0)) ⟨_, _, _, HZ2.out, by decide⟩
      exact ret_tok rfl rfl (Bx.set4 HZ2.out _ _ _ _) rfl rfl ⟨rfl, a, b⟩
    · have dI : decide ((i : Int) ≥ ln) = true := by simp; omega
      have d2 : decide ((ln : Int) ≤ i) = true := by simp; omega
      clear HT hk
      go_enter Try.func94, Try.ntmps94
      go_upto_region 1 with fail
      rw [HW.out]
      go_quiet (fail)
      go_wp2_with (go_at_call 57; refine (HF.out _).out.mono ?_; rintro e w2 ⟨rfl, hq, hk⟩; have HQ2 := hid hq; have HK2 := hid hk; have HZ2 := hid (hk.blk (show (w1.drewN _).heap[w.heap.size]? = some (.cells zTk 67) from HZ.out) (fun e => hne e.symm)); have kz := block_cell HZ2.out; have zz := block_frozen HZ2.out; clear hq hk)
      obtain ⟨a, b⟩ := HR0.out.back HQ2.out ((Kp.of (below_drewN HB0.out _)).trans HK2.out) (kp_set4e w.heap.size _ (.int .i64 0) (.string ⟨#[]⟩) (.int .i64 0) (.int .i64 0)) ⟨_, _, _, HZ2.out, by decide⟩
      exact ret_tok rfl rfl (Bx.set4 HZ2.out _ _ _ _) rfl rfl ⟨rfl, a, b⟩
set_option maxRecDepth 100000 in
set_option maxHeartbeats 2000000 in
theorem rkind_ok (h : Ry B ts w rb tv sv 0 o i qs) (k : Int) (hk : isK ts i k = true) : Calls Try.prog 94 #[dp rb, .int .i64 k] w fun e w' => e = .returned (TkV (hereS ts i)) ∧ Ry B ts w' rb tv sv 0 o (i + 1) qs ∧ Kp (fun k => k = rb) w w' := by
  have HB0 : Hid (Below w.heap.size w (w.alloc (.cells zTk 67))) := (Below.refl _ _).alloc (Nat.le_refl _) _
  have HZ := hid (alloc_block w (.cells zTk 67))
  have HQ := hid (h.on HB0.out)
  have k0 := HQ.out.cell
  have z0 := HQ.out.frozen
  have HR0 := hid h
  have hne : ¬ rb = w.heap.size := by have := h.lt; omega
  have hi := isK_lt hk
  have HI := hid hi
  have htl := h.tl
  have HH := hid (here_lt hi)
  have HT := hid HQ.out.tok
  obtain ⟨p, cap, rfl, hc1, hc2⟩ := h.tok.form
  unfold maxLen at hc2
  have i0 : (0 : Int) ≤ i := by omega
  have hgb : ∀ g, g < B → ¬ g = rb ∧ ¬ g = w.heap.size := fun g hg => by have := h.bB; have := h.lt; omega
  obtain ⟨g, og, rfl, hg, hc⟩ := HT.out.at (j := i) (List.getElem?_eq_getElem hi)
  have hkk : (ts[i]'hi).kind = k := by
    unfold isK at hk; rw [List.getElem?_eq_getElem hi] at hk; simpa using hk
  generalize hW : w.alloc (.cells zTk 67) = w1 at *
  have HW := hid hW
  clear h hW hk HT
  generalize ts[i] = t at *
  obtain ⟨gr, gz⟩ := hgb g hg
  generalize hln : ts.length = ln at *
  have HLn := hid hln
  have HC := hid hc
  have e0 : w1.cell? ⟨g, og + i * 4, none⟩ = some (.int .i64 t.kind) := hc 0 _ rfl
  have bk : (t.kind != k) = false := by simp [hkk]
  have iI : (i : Int) < ln := by omega
  have dI : decide ((i : Int) ≥ ln) = false := by simp; omega
  have d2 : decide ((ln : Int) ≤ i) = false := by simp; omega
  have d3 : decide (ln ≤ i) = false := by simp; omega
  have e9 : ((i : Int) + 1) - 1 = i := by omega
  clear hc hg hkk hgb hln hi
  go_enter Try.func94, Try.ntmps94
  go_upto_region 1 with fail
  rw [HW.out]
  go_quiet (fail)
  go_upto_region 5 with fail
  have HQ5 := hid ((HQ.out.on (below_drewN (Below.refl _ w1) nq)).next (by rw [HLn.out]; exact HI.out))
  have HK5 := hid ((Kp.of (below_drewN HB0.out nq)).trans (Kp.set (T := fun k => k = rb) (w := w1.drewN nq) (b := rb) (i := 1) rfl (.int .i64 ((i : Int) + 1))))
  have HZ5 := hid ((Kp.set (T := fun k => k = rb) (w := w1.drewN nq) (b := rb) (i := 1) rfl (.int .i64 ((i : Int) + 1))).blk (show (w1.drewN nq).heap[w.heap.size]? = some (.cells zTk 67) from HZ.out) (fun e => hne e.symm))
  have HC5 := hid (CellsAt.kp HC.out ((Kp.of (below_drewN (Below.refl _ w1) nq)).trans (Kp.set (T := fun k => k = rb) (w := w1.drewN nq) (b := rb) (i := 1) rfl (.int .i64 ((i : Int) + 1)))) gr)
  clear e0 k0 z0
  generalize (w1.drewN nq).setCell ⟨rb, 1, none⟩ (.int .i64 ((i : Int) + 1)) = W5 at *
  have k5 := HQ5.out.cell
  simp only [Int.natCast_add, Int.cast_ofNat_Int] at k5
  have e0 : W5.cell? ⟨g, og + i * 4, none⟩ = some (.int .i64 t.kind) := HC5.out 0 _ rfl
  have e1 : W5.cell? ⟨g, og + i * 4 + 1, none⟩ = some (.string (St t.s)) := HC5.out 1 _ rfl
  have e2 : W5.cell? ⟨g, og + i * 4 + 2, none⟩ = some (.int .i64 t.n) := HC5.out 2 _ rfl
  have e3 : W5.cell? ⟨g, og + i * 4 + 3, none⟩ = some (.int .i64 t.at_) := HC5.out 3 _ rfl
  have kz := block_cell HZ5.out
  have zz := block_frozen HZ5.out
  go_region
  go_wp2_with fail
  obtain ⟨a, b⟩ := HR0.out.back (HQ5.out.on (Below.refl _ _).drew) (HK5.out.trans (Kp.drew _ _)) (kp_set4e w.heap.size _ (.int .i64 t.kind) (.string (St t.s)) (.int .i64 t.n) (.int .i64 t.at_)) ⟨_, _, _, HZ5.out, by decide⟩
  exact ret_tok rfl rfl (Bx.set4 (w := W5.drew) HZ5.out _ _ _ _) rfl rfl ⟨by rw [HH.out], a, b⟩
theorem rkind_any (h : Ry B ts w rb tv sv E o i qs) (k : Int) : Calls Try.prog 94 #[dp rb, .int .i64 k] w (Y1 B ts rb tv sv o qs w vTok (lf E i (takeS ts k i))) := by
  by_cases hE : E = 0
  · subst hE
    cases hk : isK ts i k with
    | true =>
      refine (rkind_ok h k hk).mono ?_
      rintro e w1 ⟨rfl, hr, hkp⟩
      exact ⟨hkp, _, _, 0, i + 1, rfl, rfl, hr, .inr ⟨by simp [lf, takeS, hk], rfl⟩⟩
    | false =>
      refine (rkind_bad h k (.inr ⟨rfl, hk⟩)).mono ?_
      rintro e w1 ⟨rfl, hr, hkp⟩
      exact ⟨hkp, ⟨0, [], 0, 0⟩, _, _, i, rfl, rfl, hr, by unfold takeS; rw [hk]; exact erS_lf⟩
  · refine (rkind_bad h k (.inl hE)).mono ?_
    rintro e w1 ⟨rfl, hr, hkp⟩
    have he : erS E 120 = E := if_neg hE
    rw [he] at hr
    exact ⟨hkp, ⟨0, [], 0, 0⟩, _, E, i, rfl, rfl, hr, lf_bad hE⟩
end
end Go.Proofs.Ytjekpclbedbaoaa
namespace Go.Proofs.Ytjekpclbedbaoaa
open Go.RowKit Go.Joins

theorem ok_lf {α : Type} {E : Int} {i : Nat} {x : α} : Cm (lf E i (.ok x i)) x i E := by
  by_cases hE : E = 0
  · exact .inr ⟨if_pos hE, hE⟩
  · exact lf_bad hE
theorem Cm.map {α β : Type} {r : Rs α} {g : α → β} {x : α} {i0 i : Nat} {E0 E : Int} (h : Cm (lf E0 i0 r) x i E) : Cm (lf E0 i0 (r.and fun t j => .ok (g t) j)) (g x) i E := h.lfand ok_lf
theorem isE_false {E : Int} {ts : List Tp} {i : Nat} {x : List UInt8} (h : isE E ts i x = false) (hE : E = 0) : isW ts i x = false := by
  subst hE; simpa [isE] using h
theorem word_no {ts : List Tp} {i : Nat} {x : List UInt8} {k : Int} (h : isW ts i x = true) (h1 : ¬ k = 1) (h4 : ¬ k = 4) : isK ts i k = false := by
  unfold isW at h; unfold isK
  cases e : ts[i]? with
  | none => rfl
  | some t =>
    rw [e] at h
    simp at h
    simp
    rcases h.1 with h | h <;> omega
theorem value_true {ts : List Tp} {i : Nat} (h : isW ts i [116, 114, 117, 101] = true) : valueS ts i = .ok (3, 1, []) (i + 1) := by
  have hf : isW ts i [102, 97, 108, 115, 101] = false := by
    cases hw : isW ts i [102, 97, 108, 115, 101] with
    | false => rfl
    | true =>
      unfold isW at h hw
      cases e : ts[i]? with
      | none => rw [e] at h; cases h
      | some t => rw [e] at h hw; simp at h hw; rw [h.2] at hw; simp at hw
  simp [valueS, word_no h (k := 2) (by decide) (by decide), word_no h (k := 3) (by decide) (by decide), oneOfS, boolW, idxOf, h, hf, Rs.and]
theorem value_false {ts : List Tp} {i : Nat} (h : isW ts i [102, 97, 108, 115, 101] = true) : valueS ts i = .ok (3, 0, []) (i + 1) := by
  simp [valueS, word_no h (k := 2) (by decide) (by decide), word_no h (k := 3) (by decide) (by decide), oneOfS, boolW, idxOf, h, Rs.and]
theorem value_num {ts : List Tp} {i : Nat} (h : isK ts i 2 = true) : valueS ts i = (takeS ts 2 i).and fun t j => .ok ((1, t.n, []) : Int × Int × List UInt8) j := by
  simp [valueS, h, numS', takeS, Rs.and]
theorem value_txt {ts : List Tp} {i : Nat} (h2 : isK ts i 2 = false) (ht : isW ts i [116, 114, 117, 101] = false) (hf : isW ts i [102, 97, 108, 115, 101] = false) : valueS ts i = (takeS ts 3 i).and fun t j => .ok ((2, 0, t.s) : Int × Int × List UInt8) j := by
  cases h3 : isK ts i 3 with
  | true => simp [valueS, h2, h3, textV]
  | false => simp [valueS, h2, h3, takeS, oneOfS, boolW, idxOf, ht, hf, Rs.and]
theorem rv_txt {ts : List Tp} {i j : Nat} {E E' : Int} {t : Tp} (h2 : isK ts i 2 = false) (ht : isE E ts i [116, 114, 117, 101] = false) (hf : isE E ts i [102, 97, 108, 115, 101] = false) (h : Cm (lf E i (takeS ts 3 i)) t j E') : Cm (lf E i (valueS ts i)) ((2, 0, t.s) : Int × Int × List UInt8) j E' := by
  by_cases hE : E = 0
  · rw [value_txt h2 (isE_false ht hE) (isE_false hf hE)]; exact h.map (g := fun t => ((2, 0, t.s) : Int × Int × List UInt8))
  · unfold lf at h ⊢
    rw [if_neg hE] at h ⊢
    rcases h with ⟨h, h2⟩ | ⟨h, h2⟩
    · cases h; exact .inl ⟨rfl, h2⟩
    · cases h
section
variable {B : Nat} {ts : List Tp} {w w' : World} {rb : Nat} {tv sv : Value} {E : Int} {o i : Nat} {qs : List Nd}
set_option maxRecDepth 100000 in
set_option maxHeartbeats 2000000 in
theorem rvalue_any (h : Ry B ts w rb tv sv E o i qs) : Calls Try.prog 95 #[dp rb] w (Y1 B ts rb tv sv o qs w vVal (lf E i (valueS ts i))) := by
  have HB0 : Hid (Below w.heap.size w (w.alloc (.cells zVl 40))) := (Below.refl _ _).alloc (Nat.le_refl _) _
  have HZ := hid (alloc_block w (.cells zVl 40))
  have hf1 := fld1
  have hf2 := fld2
  have HQ0 := hid (h.on HB0.out)
  have HR0 := hid h
  have hne : ¬ rb = w.heap.size := by have := h.lt; omega
  have HSt := hid (rsees_any HQ0.out [116, 114, 117, 101])
  have hil := h.il
  have htl := h.tl
  obtain ⟨p, cap, rfl, hc1, hc2⟩ := h.tok.form
  unfold maxLen at hc2
  generalize hW : w.alloc (.cells zVl 40) = w1 at *
  have HW := hid hW
  have M1 : Hid True := trivial
  clear h hW
  cases ct : isE E ts i [116, 114, 117, 101] with
  | true =>
    have CT := hid ct
    rw [ct] at HSt
    clear ct
    go_enter Try.func95, Try.ntmps95
    go_upto_region 1 with fail
    rw [HW.out]
    go_wp2_with (first
      | (go_at_call 55; refine HSt.out.mono ?_; rintro e w2 ⟨rfl, hq, hk⟩; have HQ := hid hq; have HK := hid hk; clear hq hk)
      | (refine store_val (c := (3, 1, [])) rfl _ _ rfl rfl rfl (HK.out.blk HZ.out (fun e => hne e.symm)) rfl ?_; intro w4 h4 k4; have H4 := hid h4; have K4 := hid k4; clear h4 k4))
    obtain ⟨a, b⟩ := HR0.out.back HQ.out ((Kp.of HB0.out).trans HK.out) K4.out ⟨_, _, _, HK.out.blk HZ.out (fun e => hne e.symm), by decide⟩
    exact ret_val rfl rfl H4.out rfl rfl ⟨b, _, _, _, _, rfl, rfl, a, by have hE := isE_E CT.out; subst hE; exact .inr ⟨by rw [value_true (isE_W CT.out)]; rfl, rfl⟩⟩
  | false =>
    have CT := hid ct
    rw [ct] at HSt
    clear ct
    cases cf : isE E ts i [102, 97, 108, 115, 101] with
    | true =>
      have CF := hid cf
      clear cf
      go_enter Try.func95, Try.ntmps95
      go_upto_region 1 with fail
      rw [HW.out]
      go_wp2_with (first
        | (go_at_call 55; have FIRST := M1; refine HSt.out.mono ?_; rintro e w2 ⟨rfl, hq, hk⟩; have HQ1 := hid hq; have HK1 := hid hk; have HS2 := hid (rsees_any hq [102, 97, 108, 115, 101]); simp only [Bool.false_eq_true, if_false, CF.out] at HS2; clear hq hk M1 FIRST)
        | (go_at_call 55; refine HS2.out.mono ?_; rintro e w3 ⟨rfl, hq, hk⟩; have HQ := hid hq; have HK := hid (HK1.out.trans hk); clear hq hk)
        | (refine store_val (c := (3, 0, [])) rfl _ _ rfl rfl rfl (HK.out.blk HZ.out (fun e => hne e.symm)) rfl ?_; intro w4 h4 k4; have H4 := hid h4; have K4 := hid k4; clear h4 k4))
      obtain ⟨a, b⟩ := HR0.out.back HQ.out ((Kp.of HB0.out).trans HK.out) K4.out ⟨_, _, _, HK.out.blk HZ.out (fun e => hne e.symm), by decide⟩
      exact ret_val rfl rfl H4.out rfl rfl ⟨b, _, _, _, _, rfl, rfl, a, by have hE := isE_E CF.out; subst hE; exact .inr ⟨by rw [value_false (isE_W CF.out)]; rfl, rfl⟩⟩
    | false =>
      have CF := hid cf
      clear cf
      cases c2 : isK ts i 2 with
      | true =>
        have C2 := hid c2
        have hi := isK_lt c2
        have bk : ((ts[i]).kind == 2) = true := by unfold isK at c2; rw [List.getElem?_eq_getElem hi] at c2; simpa using c2
        have iI : (i : Int) < ts.length := by omega
        have d2 : decide (i < ts.length) = true := by simp; omega
        clear c2
        go_enter Try.func95, Try.ntmps95
        go_upto_region 1 with fail
        rw [HW.out]
        go_upto_region 5 with (first
          | (go_at_call 55; have FIRST := M1; refine HSt.out.mono ?_; rintro e w2 ⟨rfl, hq, hk⟩; have HQ1 := hid hq; have HK1 := hid hk; have HS2 := hid (rsees_any hq [102, 97, 108, 115, 101]); simp only [Bool.false_eq_true, if_false, CF.out] at HS2; clear hq hk M1 FIRST)
          | (go_at_call 55; refine HS2.out.mono ?_; rintro e w3 ⟨rfl, hq, hk⟩; have HQ := hid hq; have HK := hid (HK1.out.trans hk); have k3 := hq.cell; clear hq hk))
        obtain ⟨g, og, rfl, hg, hc⟩ := HQ.out.tok.at (j := i) (List.getElem?_eq_getElem hi)
        have e0 : w3.cell? ⟨g, og + i * 4, none⟩ = some (.int .i64 (ts[i]).kind) := hc 0 _ rfl
        clear hc hg
        generalize ts[i] = t at *
        generalize hln : ts.length = ln at *
        have HLn := hid hln
        clear hln
        go_quiet (fail)
        have HQ3 := hid (HQ.out.on (below_drewN (Below.refl _ w3) nq))
        have HK3 := hid (HK.out.trans (Kp.of (below_drewN (Below.refl _ w3) nq)))
        clear k3
        generalize w3.drewN nq = W3 at *
        go_wp2_with (first
          | (go_at_call 94; refine (rkind_any HQ3.out 2).mono ?_; rintro e w5 ⟨hk, t5, v5, E5, j5, rfl, rfl, hq, hc⟩; have HQ5 := hid hq; have HK5 := hid (HK3.out.trans hk); have HC5 := hid hc; clear hq hk hc)
          | (refine store_val (c := (1, t5.n, [])) rfl _ _ rfl rfl rfl (HK5.out.blk HZ.out (fun e => hne e.symm)) rfl ?_; intro w6 h6 k6; have H6 := hid h6; have K6 := hid k6; clear h6 k6))
        obtain ⟨a, b⟩ := HR0.out.back HQ5.out ((Kp.of HB0.out).trans HK5.out) K6.out ⟨_, _, _, HK5.out.blk HZ.out (fun e => hne e.symm), by decide⟩
        exact ret_val rfl rfl H6.out rfl rfl ⟨b, (1, t5.n, []), _, E5, j5, rfl, rfl, a, (by rw [value_num C2.out]; exact HC5.out.map (g := fun t => ((1, t.n, []) : Int × Int × List UInt8)))⟩
      | false =>
        have C2 := hid c2
        by_cases hi : i < ts.length
        · have bk : ((ts[i]).kind == 2) = false := by unfold isK at c2; rw [List.getElem?_eq_getElem hi] at c2; simpa using c2
          have iI : (i : Int) < ts.length := by omega
          have d2 : decide (i < ts.length) = true := by simp; omega
          clear c2
          go_enter Try.func95, Try.ntmps95
          go_upto_region 1 with fail
          rw [HW.out]
          go_upto_region 5 with (first
            | (go_at_call 55; have FIRST := M1; refine HSt.out.mono ?_; rintro e w2 ⟨rfl, hq, hk⟩; have HQ1 := hid hq; have HK1 := hid hk; have HS2 := hid (rsees_any hq [102, 97, 108, 115, 101]); simp only [Bool.false_eq_true, if_false, CF.out] at HS2; clear hq hk M1 FIRST)
            | (go_at_call 55; refine HS2.out.mono ?_; rintro e w3 ⟨rfl, hq, hk⟩; have HQ := hid hq; have HK := hid (HK1.out.trans hk); have k3 := hq.cell; clear hq hk))
          obtain ⟨g, og, rfl, hg, hc⟩ := HQ.out.tok.at (j := i) (List.getElem?_eq_getElem hi)
          have e0 : w3.cell? ⟨g, og + i * 4, none⟩ = some (.int .i64 (ts[i]).kind) := hc 0 _ rfl
          clear hc hg
          generalize ts[i] = t at *
          generalize hln : ts.length = ln at *
          have HLn := hid hln
          clear hln
          go_quiet (fail)
          have HQ3 := hid (HQ.out.on (below_drewN (Below.refl _ w3) nq))
          have HK3 := hid (HK.out.trans (Kp.of (below_drewN (Below.refl _ w3) nq)))
          clear k3
          generalize w3.drewN nq = W3 at *
          go_wp2_with (first
            | (go_at_call 94; refine (rkind_any HQ3.out 3).mono ?_; rintro e w5 ⟨hk, t5, v5, E5, j5, rfl, rfl, hq, hc⟩; have HQ5 := hid hq; have HK5 := hid (HK3.out.trans hk); have HC5 := hid hc; clear hq hk hc)
            | (refine store_val (c := (2, 0, t5.s)) rfl _ _ rfl rfl rfl (HK5.out.blk HZ.out (fun e => hne e.symm)) rfl ?_; intro w6 h6 k6; have H6 := hid h6; have K6 := hid k6; clear h6 k6))
          obtain ⟨a, b⟩ := HR0.out.back HQ5.out ((Kp.of HB0.out).trans HK5.out) K6.out ⟨_, _, _, HK5.out.blk HZ.out (fun e => hne e.symm), by decide⟩
          exact ret_val rfl rfl H6.out rfl rfl ⟨b, (2, 0, t5.s), _, E5, j5, rfl, rfl, a, rv_txt C2.out CT.out CF.out HC5.out⟩
        · have iI : ¬ (i : Int) < ts.length := by omega
          have d2 : decide (i < ts.length) = false := by simp; omega
          clear c2
          go_enter Try.func95, Try.ntmps95
          go_upto_region 1 with fail
          rw [HW.out]
          go_upto_region 5 with (first
            | (go_at_call 55; have FIRST := M1; refine HSt.out.mono ?_; rintro e w2 ⟨rfl, hq, hk⟩; have HQ1 := hid hq; have HK1 := hid hk; have HS2 := hid (rsees_any hq [102, 97, 108, 115, 101]); simp only [Bool.false_eq_true, if_false, CF.out] at HS2; clear hq hk M1 FIRST)
            | (go_at_call 55; refine HS2.out.mono ?_; rintro e w3 ⟨rfl, hq, hk⟩; have HQ := hid hq; have HK := hid (HK1.out.trans hk); have k3 := hq.cell; clear hq hk))
          generalize hln : ts.length = ln at *
          have HLn := hid hln
          clear hln
          go_quiet (fail)
          have HQ3 := hid (HQ.out.on (below_drewN (Below.refl _ w3) nq))
          have HK3 := hid (HK.out.trans (Kp.of (below_drewN (Below.refl _ w3) nq)))
          clear k3
          generalize w3.drewN nq = W3 at *
          go_wp2_with (first
            | (go_at_call 94; refine (rkind_any HQ3.out 3).mono ?_; rintro e w5 ⟨hk, t5, v5, E5, j5, rfl, rfl, hq, hc⟩; have HQ5 := hid hq; have HK5 := hid (HK3.out.trans hk); have HC5 := hid hc; clear hq hk hc)
            | (refine store_val (c := (2, 0, t5.s)) rfl _ _ rfl rfl rfl (HK5.out.blk HZ.out (fun e => hne e.symm)) rfl ?_; intro w6 h6 k6; have H6 := hid h6; have K6 := hid k6; clear h6 k6))
          obtain ⟨a, b⟩ := HR0.out.back HQ5.out ((Kp.of HB0.out).trans HK5.out) K6.out ⟨_, _, _, HK5.out.blk HZ.out (fun e => hne e.symm), by decide⟩
          exact ret_val rfl rfl H6.out rfl rfl ⟨b, (2, 0, t5.s), _, E5, j5, rfl, rfl, a, rv_txt C2.out CT.out CF.out HC5.out⟩
end
end Go.Proofs.Ytjekpclbedbaoaa
namespace Go.Proofs.Ytjekpclbedbaoaa
open Go.RowKit Go.Joins

theorem take_lf {ts : List Tp} {k : Int} {i j : Nat} {E E' : Int} {x : Tp} (h : Cm (lf E i (takeS ts k i)) x j E') : i ≤ j := by
  unfold lf takeS at h
  split at h
  · split at h
    · rcases h with ⟨h, h2⟩ | ⟨h, h2⟩
      · cases h
      · cases h; omega
    · rcases h with ⟨h, h2⟩ | ⟨h, h2⟩
      · cases h; omega
      · cases h
  · rcases h with ⟨h, h2⟩ | ⟨h, h2⟩
    · cases h; omega
    · cases h
section
variable {B : Nat} {ts : List Tp} {w w' : World} {rb : Nat} {tv sv : Value} {E : Int} {o i : Nat} {qs : List Nd}
theorem Ry.backN {w1 w2 : World} {E' : Int} {j o' : Nat} (h0 : Ry B ts w rb tv sv E o i qs) (h1 : Ry B ts w1 rb tv sv E' o' j qs) (hk : Kp (fun k => k = rb) w w1) (h2 : Kp (fun k => w.heap.size ≤ k) w1 w2) : Ry B ts w2 rb tv sv E' o' j qs ∧ Kp (fun k => k = rb) w w2 := by
  have hl := h0.lt
  have hk2 : Kp (fun k => k = rb) w w2 := hk.trans' h2 (fun k hk ht => by omega)
  exact ⟨h0.put hk2 (h2.blk h1.blk (by omega)) h1.il h1.ql h1.ol, hk2⟩
theorem Ry.atOf (h : Ry B ts w rb tv sv E o i qs) : atOf rb w = i := by
  unfold Go.Proofs.Ytjekpclbedbaoaa.atOf
  rw [h.cell 1]
  simp
theorem Own.rdy {α : Type} {enc : α → List Value} {k e n : Nat} {w' : World} {v : Value} {xs : List α} (h : Own enc k e n w v xs) (hq : Ry B ts w rb tv sv E o i qs) (hk : Kp (fun k => k = rb) w w') (he : e ≠ 72) : Own enc k e n w' v xs :=
  h.kpk hk (fun g hT c t fz hc => by subst hT; rw [hq.blk] at hc; cases hc; exact fun e' => he e'.symm)
end
end Go.Proofs.Ytjekpclbedbaoaa
