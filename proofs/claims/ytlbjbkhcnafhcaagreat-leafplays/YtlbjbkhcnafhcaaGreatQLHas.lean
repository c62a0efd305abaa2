/-
  What has of package leaf returns, for every leaf and every point.
-/
import Derived.Test.YtlbjbkhcnafhcaaGreatP23SStep
import Derived.Test.YtlbjbkhcnafhcaaGreatP17RnGet
namespace Go.Proofs.YtlbjbkhcnafhcaaGreat
open Go.RowKit Go.Sort Go.Shelf Go.Maps

abbrev B5 (bx : Nat) (n k t v : Value) (b : Nat) (z : Value) (w : World) : Prop := (w.cell? ⟨bx, 0, none⟩ = some n ∧ w.cell? ⟨bx, 1, none⟩ = some k ∧ w.cell? ⟨bx, 2, none⟩ = some t ∧ w.cell? ⟨bx, 3, none⟩ = some v) ∧ w.cell? ⟨b, 6, none⟩ = some z
theorem b5D {w : World} {bx b : Nat} {n k t v z : Value} (h : B5 bx n k t v b z w) : B5 bx n k t v b z w.drew := h
theorem b5On {w w' : World} {bx b : Nat} {n k t v z : Value} (h : B5 bx n k t v b z w) (hb : Below w.heap.size w w') : B5 bx n k t v b z w' := ⟨⟨SN.cell_onB h.1.1 hb, SN.cell_onB h.1.2.1 hb, SN.cell_onB h.1.2.2.1 hb, SN.cell_onB h.1.2.2.2 hb⟩, SN.cell_onB h.2 hb⟩
theorem b5A {w : World} {bx b : Nat} {n k t v z : Value} (h : B5 bx n k t v b z w) (o : Obj) : B5 bx n k t v b z (w.alloc o) := b5On h ((Below.refl _ _).alloc (Nat.le_refl _) o)
theorem pt_form {w : World} {u : Value} {p : Pt} (h : PtAt w u p) : ∃ pk ck pv cv, u = .agg #[.string p.sc, .slice pk (List.length p.ks) ck, .int .i64 p.tm, .slice pv (List.length p.vs) cv] ∧ RowAt w (.slice pk (List.length p.ks) ck) p.ks ∧ RowAt w (.slice pv (List.length p.vs) cv) p.vs := by
  obtain ⟨kv, vv, rfl, h1, h2⟩ := h
  have H1 := h1
  have H2 := h2
  obtain ⟨pk, ck, rfl, -⟩ := h1
  obtain ⟨pv, cv, rfl, -⟩ := h2
  exact ⟨pk, ck, pv, cv, rfl, H1, H2⟩
theorem enters51 : ∀ args w, (callFunc 51 args).run Tryz.prog w = .ok (.enter 51 args) w := enters_of Tryz.func51 (by kernel_rfl) rfl
theorem enters52 : ∀ args w, (callFunc 52 args).run Tryz.prog w = .ok (.enter 52 args) w := enters_of Tryz.func52 (by kernel_rfl) rfl
theorem step_call2 {ops : Array Oper} {o : Oper} {a : Act} {w : World} {K : Act → World → Prop} {Q : Exit → Act → World → Prop} {E : Prop} {f : FuncId} {v v2 : Value} (hgd : o.guard = none) (x y : Operand) (t t2 : TypeId)
    (ho : o.op = .call { callee := .value (.func f), args := #[x, y], argTypes := #[t, t2] }) (hx : a.eval x = v) (hy : a.eval y = v2) (hen : ∀ args w, (callFunc f args).run Tryz.prog w = .ok (.enter f args) w)
    (hc : Calls Tryz.prog f #[v, v2] w fun e w' => ∃ u, e = .returned u ∧ K (a.put o.dst u) w') : if Region.wanted o (yielded ops a.tmps) = true then Oper.wp Tryz.prog o a w K Q else E := by
  have hw : Region.wanted o (yielded ops a.tmps) = true := by simp [Region.wanted, hgd]
  rw [if_pos hw]
  unfold Oper.wp
  have hr : (execOp a.eval o).run Tryz.prog w = .ok (.enter f #[v, v2]) w := by
    simp [execOp, ho, resolve, invoke, hen, go_sem]
    rw [← hx, ← hy]
    cases x <;> cases y <;> simp [Act.eval]
  rw [hr, Oper.upon_enter]
  refine hc.mono ?_
  rintro e w' ⟨u, rfl, hk⟩
  exact hk
theorem rs_at {B : Nat} {P : Nat → Prop} {w : World} {b : Nat} {S : List Sc} {room : Int} {x : Lx} {l : List Sm} {R : List (List Sp)} {n : Nat} (h : Lk B P w b S room x l R n) {j : Nat} {s : Sm} (hj : l[j]? = some s) : ∃ r q, x.rs[j]? = some r ∧ R[j]? = some q ∧ RN.Rk B P w r.b r.sv r.pv q := by
  have hlt := (List.getElem?_eq_some_iff.1 hj).1
  have h2 : j < R.length := by rw [h.len]; exact hlt
  have h1 : j < x.rs.length := by rw [h.rl.len]; exact h2
  exact ⟨_, _, List.getElem?_eq_getElem h1, List.getElem?_eq_getElem h2, h.rl.run j _ _ (List.getElem?_eq_getElem h1) (List.getElem?_eq_getElem h2)⟩
set_option maxRecDepth 100000 in
set_option maxHeartbeats 2000000 in
theorem has_any {B : Nat} {P : Nat → Prop} {w : World} {b : Nat} {S : List Sc} {room : Int} {x : Lx} {pts : List Pt} {u : Value} {p : Pt} (h : Lf B P w b S room x pts) (hp : PtAt w u p) (hn : pts.length ≤ 254) (hk : List.length p.ks ≤ 2000000) (hs : p.sc.size ≤ 2000000) (hr : ∀ v ∈ p.ks, SN.Rng v) :
    Calls Tryz.prog 27 #[dp b, u] w fun e w' => e = .returned (.bool (hasP pts p)) ∧ Below w.heap.size w w' := by
  obtain ⟨l, R, hl, hi⟩ := h.lk
  obtain ⟨pk, ck, pv, cv, rfl, hrk, hrv⟩ := pt_form hp
  clear h hp
  have HK := hid hrk
  have HLk := hid hk
  have HLs := hid hs
  have HRg := hid hr
  have hlen : l.length ≤ 1000 := by have := hi.l_le; omega
  have hB0 := (Below.refl w.heap.size w).alloc (Nat.le_refl _) (.cells #[.string p.sc, .slice pk (List.length p.ks) ck, .int .i64 p.tm, .slice pv (List.length p.vs) cv] 34)
  have HB0 := hid hB0
  have KB0 := alloc_block w (.cells #[.string p.sc, .slice pk (List.length p.ks) ck, .int .i64 p.tm, .slice pv (List.length p.vs) cv] 34)
  have HL0 := hid (hl.on hB0)
  have hS0 : B5 w.heap.size (.string p.sc) (.slice pk (List.length p.ks) ck) (.int .i64 p.tm) (.slice pv (List.length p.vs) cv) b (.map (some x.sm)) (w.alloc (.cells #[.string p.sc, .slice pk (List.length p.ks) ck, .int .i64 p.tm, .slice pv (List.length p.vs) cv] 34)) := ⟨⟨block_cell KB0 0, block_cell KB0 1, block_cell KB0 2, block_cell KB0 3⟩, block_cell HL0.out.dk.blk 6⟩
  have HK0 := hid (hrk.on hB0)
  have HS := hid hS0
  have M1 : Hid True := trivial
  by_cases hm : kyP p ∈ l
  · obtain ⟨j, hj⟩ : ∃ j, j = SN.posS (kyP p) l := ⟨_, rfl⟩
    have hj1 : l[j]? = some (kyP p) := by rw [hj]; exact SN.posS_get hm
    have hjl : j < l.length := (List.getElem?_eq_some_iff.1 hj1).1
    have E1 : Hid (SN.findI l (kyP p) = (j : Int)) := by show _ = _; unfold SN.findI; rw [if_pos hm, hj]
    have E2 : Hid (SN.memS l (kyP p) = true) := by show _ = _; simp [SN.memS, hm]
    obtain ⟨r, q, hr1, hq1, hrk1⟩ := rs_at HL0.out hj1
    have E3 := hid (hi.has hj1 hq1)
    have HQ : Hid (q.length ≤ 1000) := by have := hi.q_le hq1; show _ ≤ _; omega
    have HRk := hid hrk1
    obtain ⟨D, hD, hA⟩ := HL0.out.map
    have HD := hid hD
    have HA := hid hA
    have HBj : Hid ((x.rs.map Rm.b)[j]? = some r.b) := by show _ = _; rw [List.getElem?_map, hr1]; rfl
    have hj1000 : j ≤ 1000 := by omega
    clear hl hi hrk hrv hB0 KB0 hm hj hj1 hr1 hq1 hrk1 hD hA hk hs hr hlen hn
    generalize hz : hasP pts p = z at *
    clear hz
    go_enter Tryz.func27, Tryz.ntmps27
    go_wp2_with fail
    generalize hBX : w.heap.size = BX at *
    have HBX := hid hBX
    clear hBX
    generalize (w.alloc (.cells #[.string p.sc, .slice pk (List.length p.ks) ck, .int .i64 p.tm, .slice pv (List.length p.vs) cv] 34)) = W at *
    generalize hnk : List.length p.ks = nk at *
    generalize List.length p.vs = nv at *
    have HNK := hid hnk
    clear hnk
    go_region_held3 (B5 BX (.string p.sc) (.slice pk nk ck) (.int .i64 p.tm) (.slice pv nv cv) b (.map (some x.sm))) (((repeat (first | (with_reducible refine b5D ?_) | (with_reducible refine b5A ?_ _))); (with_reducible assumption)))
      (first
      | (refine step_call3 (v := .pointer (some ⟨b, 3, none⟩)) (v2 := .string p.sc) (v3 := .slice pk nk ck) rfl (.tmp 10) (.tmp 12) (.tmp 14) 67 9 32 rfl (by simp [Act.eval]) (by simp [Act.eval]) (by simp [Act.eval]) enters51 ?_; refine (SN.find_any (s := kyP p) (HL0.out.on (Below.refl _ _).drew).dk (HK0.out.on (Below.refl _ _).drew) (by rw [show List.length (kyP p).ks = nk from HNK.out]; exact HLk.out) HLs.out HRg.out).mono ?_; rintro e w1 ⟨rfl, hb1⟩; refine ⟨_, rfl, ?_⟩; rw [E1.out, E2.out]; have HB1 : Hid (Below W.heap.size W w1) := (Below.refl _ _).drew.trans hb1; have hS1 := b5On HS.out HB1.out; clear hb1 hS0 M1))
    have HRk1 := hid (HRk.out.on (HB1.out.drew))
    have hlk : (Instr.lookup 70 (.map (some x.sm)) (.int .i64 (j : Int)) false).run Tryz.prog w1.drew = .ok (dp r.b) w1.drew := look_in (pmap_kp (T := fun _ => False) HD.out (Kp.of HB1.out.drew) id) HA.out HBj.out hj1000
    have HS1 := hid hS1
    go_wp2_with fail
    go_region_held3 (B5 BX (.string p.sc) (.slice pk nk ck) (.int .i64 p.tm) (.slice pv nv cv) b (.map (some x.sm))) (((repeat (first | (with_reducible refine b5D ?_) | (with_reducible refine b5A ?_ _))); (with_reducible assumption)))
      (first
      | (refine step_call2 (v := dp r.b) (v2 := .int .i64 p.tm) rfl (.tmp 26) (.tmp 28) 74 3 rfl (by simp [Act.eval]) (by simp [Act.eval]) enters52 ?_; refine (RN.get_any (Q := any) HRk1.out HQ.out (fun _ _ => trivial)).mono ?_; rintro e w2 ⟨p2, c2, rfl, -, hb2⟩; refine ⟨_, rfl, ?_⟩; rw [← E3.out]; have HB2 : Hid (Below w1.heap.size w1 w2) := (Below.refl _ _).drew.trans hb2; have hS2 := b5On HS1.out HB2.out; clear hb2 hS1))
    go_wp2_with fail
    go_ret
    exact ⟨rfl, by have e := HBX.out; have hq := HB0.out.size; rw [e] at hq ⊢; exact HB0.out.trans ((HB1.out.trans (HB2.out.mono HB1.out.size)).mono hq)⟩
  · have E1 : Hid (SN.findI l (kyP p) = 0) := by show _ = _; unfold SN.findI; rw [if_neg hm]
    have E2 : Hid (SN.memS l (kyP p) = false) := by show _ = _; simp [SN.memS, hm]
    have E3 := hid (hi.hasNo hm)
    clear hl hi hrk hrv hB0 KB0 hm hk hs hr hlen hn
    go_enter Tryz.func27, Tryz.ntmps27
    go_wp2_with fail
    generalize hBX : w.heap.size = BX at *
    have HBX := hid hBX
    generalize (w.alloc (.cells #[.string p.sc, .slice pk (List.length p.ks) ck, .int .i64 p.tm, .slice pv (List.length p.vs) cv] 34)) = W at *
    generalize hnk : List.length p.ks = nk at *
    generalize List.length p.vs = nv at *
    have HNK := hid hnk
    clear hnk hBX
    go_region_held3 (B5 BX (.string p.sc) (.slice pk nk ck) (.int .i64 p.tm) (.slice pv nv cv) b (.map (some x.sm))) (((repeat (first | (with_reducible refine b5D ?_) | (with_reducible refine b5A ?_ _))); (with_reducible assumption)))
      (first
      | (refine step_call3 (v := .pointer (some ⟨b, 3, none⟩)) (v2 := .string p.sc) (v3 := .slice pk nk ck) rfl (.tmp 10) (.tmp 12) (.tmp 14) 67 9 32 rfl (by simp [Act.eval]) (by simp [Act.eval]) (by simp [Act.eval]) enters51 ?_; refine (SN.find_any (s := kyP p) (HL0.out.on (Below.refl _ _).drew).dk (HK0.out.on (Below.refl _ _).drew) (by rw [show List.length (kyP p).ks = nk from HNK.out]; exact HLk.out) HLs.out HRg.out).mono ?_; rintro e w1 ⟨rfl, hb1⟩; refine ⟨_, rfl, ?_⟩; rw [E1.out, E2.out]; have HB1 : Hid (Below W.heap.size W w1) := (Below.refl _ _).drew.trans hb1; have hS1 := b5On HS.out HB1.out; clear hb1 hS0 M1))
    go_wp2_with fail
    go_ret
    exact ⟨congrArg (fun z => Ending.returned (.bool z)) E3.out.symm, by have e := HBX.out; have hq := HB0.out.size; rw [e] at hq ⊢; exact HB0.out.trans (HB1.out.mono hq)⟩
end Go.Proofs.YtlbjbkhcnafhcaaGreat
