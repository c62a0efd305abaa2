/-
  PredNot, walked.
-/
import Derived.Test.YtjekpclbedbaoaaKS02
import Derived.Test.YtjekpclbedbaoaaKS16
import Derived.Test.YtjekpclbedbaoaaKS20
import Derived.Test.YtjekpclbedbaoaaKS24
import Derived.Test.YtjekpclbedbaoaaKS33
import Derived.Test.YtjekpclbedbaoaaKS34
import Derived.Deep.RegionHeldLaw
import Derived.BigQuiet
namespace Go.Proofs.Ytjekpclbedbaoaa.PD
open Go.RowKit Go.Joins Go.Sort

theorem whole_okN {ts : List Tp} {p : PN} (hb : ∀ i c, p 0 [] = .bad i c → c ≠ 0) (h : (wholeS ts p).2.2 = 0) : ∃ r j, p 0 [] = .ok r j ∧ ts.length ≤ j ∧ (wholeS ts p).1 = r.2 := by
  unfold wholeS at h ⊢
  split at h
  · simp at h
  · rename_i hl
    rw [if_neg hl]
    cases hq : p 0 [] with
    | bad i c => rw [hq] at h; exact absurd h (hb i c hq)
    | ok r j =>
      rw [hq] at h
      simp only at h ⊢
      split at h
      · simp at h
      · rename_i h1
        rw [if_neg h1]
        split at h
        · simp at h
        · rename_i h2; rw [if_neg h2]; exact ⟨r, j, rfl, by omega, rfl⟩
theorem rws_heads {B : Nat} {w : World} {v : Value} {hs : List Value} {rs : List TN.Rw} (h : Rws B w v hs rs) : TN.HeadsIn TN.any w hs rs := ⟨h.len, fun j x r a b => (h.row j x r a b).imp (fun _ _ => trivial)⟩
theorem rws_one {B : Nat} {w : World} {v : Value} {hs : List Value} {rs : List TN.Rw} (h : Rws B w v hs rs) : ∀ y ∈ hs, ∀ c ∈ TN.one y, c.oneCell' = true := by
  intro y hy c hc
  simp [TN.one] at hc
  subst hc
  obtain ⟨j, hj⟩ := List.getElem?_of_mem hy
  have hl : j < rs.length := by rw [← h.len]; exact (List.getElem?_eq_some_iff.1 hj).1
  obtain ⟨p, cap, e, -⟩ := h.row j c rs[j] hj (List.getElem?_eq_getElem hl)
  rw [e]; rfl
theorem heads_app {w : World} {h1 h2 : List Value} {r1 r2 : List TN.Rw} (a : TN.HeadsIn TN.any w h1 r1) (b : TN.HeadsIn TN.any w h2 r2) : TN.HeadsIn TN.any w (h1 ++ h2) (r1 ++ r2) := by
  refine ⟨by rw [List.length_append, List.length_append, a.1, b.1], fun j x r e1 e2 => ?_⟩
  have ha := a.1
  rcases Nat.lt_or_ge j h1.length with hj | hj
  · rw [List.getElem?_append_left hj] at e1
    rw [List.getElem?_append_left (by omega)] at e2
    exact a.2 j x r e1 e2
  · rw [List.getElem?_append_right hj] at e1
    rw [List.getElem?_append_right (by omega)] at e2
    exact b.2 _ x r e1 (by rw [ha]; exact e2)
theorem big1n {n : Nat} (h : n ≤ 1000000) : n * TN.bsz 1 ≤ 140737488355328 := by
  unfold TN.bsz
  rw [if_neg (by decide)]
  omega
theorem tabA_formN {Q : Nat → Prop} {w' : World} {v : Value} {cs : List TN.Cl} {rs : List TN.Rw} (h : TN.TabIn Q w' v cs rs) : ∃ pc nc cc pr nr cr, v = .agg #[.slice pc nc cc, .slice pr nr cr] := by
  obtain ⟨c, r, rfl, ⟨p, cap, rfl, -⟩, hs, ⟨q, cq, rfl, -⟩, -⟩ := h
  exact ⟨_, _, _, _, _, _, rfl⟩
theorem nodes_some {ts : List Tp} (h : (wholeS ts (condS ts 16)).2.2 = 0) : 0 < (wholeS ts (condS ts 16)).1.length ∧ (wholeS ts (condS ts 16)).1.length ≤ 128 := by
  obtain ⟨r, j, e1, e2, e3⟩ := whole_okN (fun i c h => cond_bd ts 16 0 [] i c h) h
  have hg := (cond_go ts 16 _ _ _ _ e1).2.2.2.1
  refine ⟨by rw [e3]; omega, ?_⟩
  unfold wholeS
  split
  · simp
  · rw [e1]
    dsimp only
    split
    · simp
    · split
      · simp
      · rename_i h1 h2; show r.2.length ≤ 128; omega
def notN (g : Nat) (v : Int) : Nx := ⟨{ n0 with kind := 13, l := [v] }, 0, 0, 0, 0, 0, 0, 0, 0, .slice (some ⟨g, 0, none⟩) 1 1, .slice none 0 0, .slice none 0 0⟩
def notC (g : Nat) : Array Value := #[.int .i64 13, .string ⟨#[]⟩, .int .i64 0, .int .i64 0, .int .i64 0, .int .i64 0, .int .i64 0, .string ⟨#[]⟩, .int .i64 0, .int .i64 0, .int .i64 0, .int .i64 0, .int .i64 0, .int .i64 0, .int .i64 0, .int .i64 0, .slice (some ⟨g, 0, none⟩) 1 1, .slice none 0 0, .slice none 0 0]
theorem not_one (g : Nat) (v : Int) : ∀ c ∈ (notN g v).cells, c.oneCell' = true := by
  intro c hc
  simp only [notN, Nx.cells, List.mem_cons, List.not_mem_nil, or_false] at hc
  rcases hc with h | h | h | h | h | h | h | h | h | h | h | h | h | h | h | h | h | h | h <;> (subst h; rfl)
theorem notN_own (w9 : World) (v : Int) : Own Nx.cells 19 44 (w9.heap.size + 1) ((w9.alloc (.cells #[.int .i64 v] 3)).alloc (.cells (notC w9.heap.size) 44)) (.slice (some ⟨w9.heap.size + 1, 0, none⟩) 1 1) [notN w9.heap.size v] :=
  Own.blk (xs := [notN w9.heap.size v]) (fun _ => rfl) (Nat.le_refl _) (by show _ = some (Obj.cells (notC w9.heap.size) 44 (0, 0)); have := alloc_block (w9.alloc (.cells #[.int .i64 v] 3)) (.cells (notC w9.heap.size) 44); simpa using this) (by unfold maxLen; simp)
theorem notL_at (w9 : World) (v : Int) : SlAt (fun b => b = w9.heap.size) int1 1 (w9.alloc (.cells #[.int .i64 v] 3)) (.slice (some ⟨w9.heap.size, 0, none⟩) 1 1) [v] :=
  (Own.sl (Own.blk (enc := int1) (k := 1) (e := 3) (B := w9.heap.size) (w := w9.alloc (.cells #[.int .i64 v] 3)) (xs := [v]) (fun _ => rfl) (Nat.le_refl _) (alloc_block w9 _) (by unfold maxLen; simp)) (fun _ => rfl)).imp (fun b hb => by have h1 := hb.1; have h2 := hb.2; simp at h2; omega)
theorem two_below {w8 w9 wa : World} {v : Value} {qs : List Nx} (h89 : Below w8.heap.size w8 w9) (ho : Own Nx.cells 19 44 w8.heap.size w9 v qs) (X Y : Obj) (hg : ((w9.alloc X).alloc Y).grownBy wa v.ownBlock) : Below w8.heap.size w8 wa :=
  (TN.below_on h89 (((Below.refl w9.heap.size w9).alloc (Nat.le_refl _) X).alloc (by simp) Y)).trans ((Kp.grown (T := fun b => v.ownBlock = some b) hg (fun b e => e)).below (by have := h89.size; simp; omega) (fun b e => (ho.at e).1))
theorem own_ne {α : Type} {enc : α → List Value} {k e B b t : Nat} {w : World} {v : Value} {xs : List α} {C : Array Value} {fz : Nat × Nat} (h : Own enc k e B w v xs) (hb : w.heap[b]? = some (.cells C t fz)) (ht : t ≠ e) : v.ownBlock ≠ some b := by
  rcases h.2 with ⟨hv, h0⟩ | ⟨g, cap, cur, hv, hg, hblk, hc, hm, q⟩
  · rw [hv]; intro e'; cases e'
  · rw [hv]; intro e'; cases e'; rw [hblk] at hb; cases hb; exact ht rfl
abbrev Tn3 (b0 b1 b2 : Nat) (v0 v1 v2 : Value) (w : World) : Prop := w.cell? ⟨b0, 0, none⟩ = some v0 ∧ w.cell? ⟨b1, 1, none⟩ = some v1 ∧ w.cell? ⟨b2, 1, none⟩ = some v2
theorem T3B {b0 b1 b2 B : Nat} {v0 v1 v2 : Value} {w w' : World} (h : Tn3 b0 b1 b2 v0 v1 v2 w) (hb : Below B w w') (h0 : b0 < B) (h1 : b1 < B) (h2 : b2 < B) : Tn3 b0 b1 b2 v0 v1 v2 w' :=
  ⟨(hb.cell (p := ⟨b0, 0, none⟩) h0).trans h.1, (hb.cell (p := ⟨b1, 1, none⟩) h1).trans h.2.1, (hb.cell (p := ⟨b2, 1, none⟩) h2).trans h.2.2⟩
theorem T3D {b0 b1 b2 : Nat} {v0 v1 v2 : Value} {w : World} (h : Tn3 b0 b1 b2 v0 v1 v2 w) : Tn3 b0 b1 b2 v0 v1 v2 w.drew := T3B h (Below.refl _ _).drew (block_lt_of_cell h.1) (block_lt_of_cell h.2.1) (block_lt_of_cell h.2.2)
theorem T3A {b0 b1 b2 : Nat} {v0 v1 v2 : Value} {w : World} {X : Obj} (h : Tn3 b0 b1 b2 v0 v1 v2 w) : Tn3 b0 b1 b2 v0 v1 v2 (w.alloc X) := T3B h ((Below.refl _ _).alloc (Nat.le_refl _) X) (block_lt_of_cell h.1) (block_lt_of_cell h.2.1) (block_lt_of_cell h.2.2)
theorem T3S {b0 b1 b2 b o : Nat} {v0 v1 v2 u : Value} {w : World} (n0 : b ≠ b0) (n1 : b ≠ b1) (n2 : b ≠ b2) (h : Tn3 b0 b1 b2 v0 v1 v2 w) : Tn3 b0 b1 b2 v0 v1 v2 (w.setCell ⟨b, o, none⟩ u) := by
  have k := Kp.set (T := fun k => k = b) (w := w) (b := b) (i := o) rfl u
  exact ⟨k.cell h.1 (fun e => n0 e.symm), k.cell h.2.1 (fun e => n1 e.symm), k.cell h.2.2 (fun e => n2 e.symm)⟩
theorem step_call1N {ops : Array Oper} {o : Oper} {a : Act} {w : World} {K : Act → World → Prop} {Q : Exit → Act → World → Prop} {E : Prop} {f : FuncId} {v : Value} (hgd : o.guard = none) (x : Operand) (t : TypeId)
    (ho : o.op = .call { callee := .value (.func f), args := #[x], argTypes := #[t] }) (hx : a.eval x = v) (hen : ∀ args w, (callFunc f args).run Try.prog w = .ok (.enter f args) w)
    (hc : Calls Try.prog f #[v] w fun e w' => ∃ u, e = .returned u ∧ K (a.put o.dst u) w') : if Region.wanted o (yielded ops a.tmps) = true then Oper.wp Try.prog o a w K Q else E := by
  have hw : Region.wanted o (yielded ops a.tmps) = true := by simp [Region.wanted, hgd]
  rw [if_pos hw]
  unfold Oper.wp
  have hr : (execOp a.eval o).run Try.prog w = .ok (.enter f #[v]) w := by
    simp [execOp, ho, resolve, invoke, hen, go_sem]
    rw [← hx]
    cases x <;> simp [Act.eval]
  rw [hr, Oper.upon_enter]
  refine hc.mono ?_
  rintro e w' ⟨u, rfl, hk⟩
  exact hk
theorem step_call2N {ops : Array Oper} {o : Oper} {a : Act} {w : World} {K : Act → World → Prop} {Q : Exit → Act → World → Prop} {E : Prop} {f : FuncId} {v v2 : Value} (hgd : o.guard = none) (x y : Operand) (t t2 : TypeId)
    (ho : o.op = .call { callee := .value (.func f), args := #[x, y], argTypes := #[t, t2] }) (hx : a.eval x = v) (hy : a.eval y = v2) (hen : ∀ args w, (callFunc f args).run Try.prog w = .ok (.enter f args) w)
    (hc : Calls Try.prog f #[v, v2] w fun e w' => ∃ u, e = .returned u ∧ K (a.put o.dst u) w') : if Region.wanted o (yielded ops a.tmps) = true then Oper.wp Try.prog o a w K Q else E := by
  have hw : Region.wanted o (yielded ops a.tmps) = true := by simp [Region.wanted, hgd]
  rw [if_pos hw]
  unfold Oper.wp
  have hr : (execOp a.eval o).run Try.prog w = .ok (.enter f #[v, v2]) w := by
    simp [execOp, ho, resolve, invoke, hen, go_sem]
    rw [← hx, ← hy]
    cases x <;> cases y <;> simp [Act.eval]
  rw [hr, Oper.upon_enter]
  refine hc.mono ?_
  rintro e w' ⟨u, rfl, hk⟩
  exact hk
theorem enters_dcanon : ∀ args w, (callFunc 16 args).run Try.prog w = .ok (.enter 16 args) w := enters_of Try.func16 (by kernel_rfl) rfl
theorem enters_dsame : ∀ args w, (callFunc 15 args).run Try.prog w = .ok (.enter 15 args) w := enters_of Try.func15 (by kernel_rfl) rfl
abbrev T4 (b0 b1 : Nat) (v0 v1 u0 u1 : Value) (w : World) : Prop := w.cell? ⟨b0, 0, none⟩ = some v0 ∧ w.cell? ⟨b0, 1, none⟩ = some v1 ∧ w.cell? ⟨b1, 0, none⟩ = some u0 ∧ w.cell? ⟨b1, 1, none⟩ = some u1
theorem T4B {b0 b1 B : Nat} {v0 v1 u0 u1 : Value} {w w' : World} (h : T4 b0 b1 v0 v1 u0 u1 w) (hb : Below B w w') (h0 : b0 < B) (h1 : b1 < B) : T4 b0 b1 v0 v1 u0 u1 w' :=
  ⟨(hb.cell (p := ⟨b0, 0, none⟩) h0).trans h.1, (hb.cell (p := ⟨b0, 1, none⟩) h0).trans h.2.1, (hb.cell (p := ⟨b1, 0, none⟩) h1).trans h.2.2.1, (hb.cell (p := ⟨b1, 1, none⟩) h1).trans h.2.2.2⟩
theorem T4D {b0 b1 : Nat} {v0 v1 u0 u1 : Value} {w : World} (h : T4 b0 b1 v0 v1 u0 u1 w) : T4 b0 b1 v0 v1 u0 u1 w.drew := T4B h (Below.refl _ _).drew (block_lt_of_cell h.1) (block_lt_of_cell h.2.2.1)
theorem own_tnO {B e : Nat} {w : World} {v : Value} {xs : List Value} (h : Own TN.one 1 e B w v xs) (hl : xs.length ≤ 1000000) : TN.SlAt (fun b => v.ownBlock = some b) TN.one 1 w v xs := by
  rcases h.2 with ⟨hv, h0⟩ | ⟨g, cap, cur, hv, hg, hblk, hc, hm, q⟩
  · have hn : xs = [] := List.eq_nil_of_length_eq_zero h0
    subst hn
    rw [hv]; exact TN.SlAt.nil _ _ _ _
  · refine ⟨some ⟨g, 0, none⟩, cap, hv, ⟨hc, fun e => by cases e⟩, by unfold maxLen; omega, fun _ => ⟨g, 0, rfl, ⟨by rw [hv]; rfl, by unfold TN.bsz; rw [if_neg (by decide)]; omega⟩, fun j x hx i u hi => ?_⟩⟩
    have := World.ownsRow.cells h (g := g) (by rw [hv]; rfl) (j * 1 + i) u (flat_get (enc := TN.one) (k := 1) (fun _ => rfl) xs j x hx i u hi)
    rw [Addr.add_lit, Nat.zero_add] at this
    rw [Nat.zero_add]
    exact this
theorem St_ofB (s : ByteArray) : St s.data.toList = s := by cases s; simp [St]
set_option maxRecDepth 100000 in
set_option maxHeartbeats 16000000 in
theorem predNot_any {l : List UInt8} {tv : Value} {cs : List TN.Cl} {rs : List TN.Rw} {w : World} (ht : TN.TabAt w tv cs rs) (hM : Mx w) (hz : ∀ r ∈ rs, Rsz r) (hl : (l.length : Int) ≤ 140737488355328) : Calls Try.prog 3 #[.string (St l), tv] w fun e w' => e = .returned (.bool true) ∧ Below w.heap.size w w' := by
  have HL := hid (fun w => rlex_any l hl w)
  have HK : Hid (∀ (w : World) (tv : Value), SlAt (fun b => b < w.heap.size) Tp.cells 4 w tv ((lexO l).1.map tp) → Calls Try.prog 13 #[tv] w (WhP w (wholeS ((lexO l).1.map tp) (condS ((lexO l).1.map tp) 16)))) := fun w tv h => RCond_any h
  have HNs : Hid ((wholeS ((lexO l).1.map tp) (condS ((lexO l).1.map tp) 16)).2.2 = 0 → 0 < (wholeS ((lexO l).1.map tp) (condS ((lexO l).1.map tp) 16)).1.length ∧ (wholeS ((lexO l).1.map tp) (condS ((lexO l).1.map tp) 16)).1.length ≤ 128) := hid nodes_some
  generalize wholeS ((lexO l).1.map tp) (condS ((lexO l).1.map tp) 16) = RN at *
  unfold LexP at HL
  generalize (lexO l) = X at *
  obtain ⟨ns, pa, ea⟩ := RN
  obtain ⟨us, xa, xe⟩ := X
  obtain ⟨cv, rv, rfl, hcs, hs, hrs, hhs⟩ := ht
  obtain ⟨W, hW⟩ : ∃ W, W = w.alloc (.cells #[cv, rv] 25) := ⟨_, rfl⟩
  have hb0 : Below w.heap.size w W := by rw [hW]; exact (Below.refl _ _).alloc (Nat.le_refl _) _
  have k0 : W.heap[w.heap.size]? = some (.cells #[cv, rv] 25 (0, 0)) := by rw [hW]; exact alloc_block w _
  have HB0 := hid hb0
  have KT0 := hid k0
  have HC0 := hid ((TN.SlAt.low hcs (by decide) TN.cl_len).imp (fun b hb => hb.2) |>.on hb0)
  have HR0 := hid ((TN.SlAt.low hrs (by decide) TN.one_len).imp (fun b hb => hb.2) |>.on hb0)
  have HH0 := hid (TN.HeadsIn.on (TN.heads_low hhs) hb0)
  have HM0 := hid (hM.on hb0)
  have HW := hid hW
  have HP := hid (mx_pos hM)
  have HZ := hid hz
  obtain ⟨pc, cc, rfl, -⟩ := hcs
  obtain ⟨pr0, cr0, rfl, -⟩ := hrs
  clear hb0 k0 hW hhs hM hz
  go_enter Try.func3, Try.ntmps3
  go_upto_region 1 with fail
  rw [← HW.out]
  clear HW
  go_upto_region 2 with (first
    | (go_at_call 10; refine (shown5_any W HM0.out).mono ?_; rintro e w3 ⟨rfl, hb⟩; have HB3 := hid (TN.below_on HB0.out hb); have hk1 := block_on KT0.out hb; have HKt := hid hk1; have y0 := block_cell hk1; have HC3 := hid (HC0.out.on hb); have HR3 := hid (HR0.out.on hb); have HH3 := hid (HH0.out.on hb); have HM3 := hid (HM0.out.on hb); clear hb hk1))
  go_upto_region 3 with (first
    | (go_at_call 11; refine (TN.cut5_q HC3.out HR3.out HH3.out).mono ?_; rintro e w4 ⟨r2, rfl, hr2, hh2, hb⟩; have hrz : ∀ r ∈ rs.take 100, Rsz r := (fun r hr => HZ.out r (List.mem_of_mem_take hr)); have hr1 : (rs.take 100).length ≤ 100 := (by rw [List.length_take]; omega); generalize hs.take 100 = hs4 at *; generalize rs.take 100 = rs4 at *; have HRz := hid hrz; have HLR := hid hr1; have HB4 := hid (TN.below_on HB3.out hb); have HKt4 := hid (block_on HKt.out hb); have HM4 := hid (HM3.out.on hb); have HC4 := hid (HC3.out.on hb); have HR4 := hid hr2; have HH4 := hid hh2; obtain ⟨pr, cr, rfl, -⟩ := hr2; have y4 := block_cell HKt4.out; have y5 := block_frozen HKt4.out; clear hb hh2 hr1 hrz y0))
  have KF := block_set (block_set HKt4.out 0 (.slice pc cs.length cc)) 1 (.slice pr hs4.length cr)
  have hkf : Kp (fun b => b = w.heap.size) w4 ((w4.setCell ⟨w.heap.size, 0, none⟩ (.slice pc cs.length cc)).setCell ⟨w.heap.size, 1, none⟩ (.slice pr hs4.length cr)) := (Kp.set (T := fun b => b = w.heap.size) rfl _).trans (Kp.set (T := fun b => b = w.heap.size) rfl _)
  have HKt5 : Hid (((w4.setCell ⟨w.heap.size, 0, none⟩ (.slice pc cs.length cc)).setCell ⟨w.heap.size, 1, none⟩ (.slice pr hs4.length cr)).heap[w.heap.size]? = some (.cells #[.slice pc cs.length cc, .slice pr hs4.length cr] 25 (0, 0))) := hid KF
  have HB5 := hid (HB4.out.trans (hkf.below HB4.out.size (fun b e => by omega)))
  have HM5 := hid (mx_kp HM4.out hkf (by have := HP.out; omega))
  have hT5 : TN.TabIn (fun b => b < w.heap.size) ((w4.setCell ⟨w.heap.size, 0, none⟩ (.slice pc cs.length cc)).setCell ⟨w.heap.size, 1, none⟩ (.slice pr hs4.length cr)) (.agg #[.slice pc cs.length cc, .slice pr hs4.length cr]) cs rs4 := TN.TabIn.set (fun b hb => by omega) (TN.TabIn.set (fun b hb => by omega) ⟨_, _, rfl, HC4.out, hs4, HR4.out, HH4.out⟩)
  have HT5 := hid hT5
  clear KF hkf y4 y5 HC4 HR4 HH4 HM4 hT5
  generalize (w4.setCell ⟨w.heap.size, 0, none⟩ (.slice pc cs.length cc)).setCell ⟨w.heap.size, 1, none⟩ (.slice pr hs4.length cr) = w5 at *
  go_upto_region 5 with (first
    | (go_at_call 12; refine (HL.out _).mono ?_; rintro e w6 ⟨tv, rfl, htr, hb⟩; have HB6 := hid hb; have HT6 := hid htr.sl; clear htr hb)
    | (go_at_call 13; refine (HK.out _ _ HT6.out).mono ?_; rintro e w7 ⟨vs, rfl, hns, hb⟩; obtain ⟨p5, c5, rfl, -, -⟩ := hns.len; have HN7 := hid hns; have HB7 := hid (HB6.out.trans (hb.mono HB6.out.size)); clear hns hb))
  have hb8 : Below w7.heap.size w7 (w7.alloc (.cells #[.slice p5 ns.length c5] 34)) := (Below.refl _ _).alloc (Nat.le_refl _) _
  have K8 := hid (alloc_block w7 (.cells #[.slice p5 ns.length c5] 34))
  obtain ⟨qs, hQ7, hstr, hql⟩ := nq_qx HN7.out
  have HQ8 := hid (hQ7.kp (T := fun _ => False) (Kp.of hb8) (fun _ _ => id))
  have HL7 := hid (lt_of_block K8.out)
  clear hQ7
  have HB8 := hid (HB7.out.trans (hb8.mono HB7.out.size))
  have HBt := hid (HB5.out.trans (HB8.out.mono HB5.out.size))
  clear hb8
  generalize w7.alloc (.cells #[.slice p5 ns.length c5] 34) = w8 at *
  by_cases hx : xe = 0
  case neg =>
    have d1 : (xe != 0) = true := by simp; exact hx
    go_wp2_with fail
    go_ret
    exact ⟨rfl, HBt.out⟩
  case pos =>
  subst hx
  by_cases he : ea = 0
  case neg =>
    have d1 : (ea != 0) = true := by simp; exact he
    have d0 : ((0 : Int) != 0) = false := rfl
    go_wp2_with fail
    go_ret
    exact ⟨rfl, HBt.out⟩
  case pos =>
  subst he
  have d0 : ((0 : Int) != 0) = false := rfl
  obtain ⟨hn0, hn1⟩ := HNs.out rfl
  have HQL := hid hql
  have y1 := block_cell K8.out 0
  go_upto_region 8 with fail
  have hne : qs ≠ [] := by intro e; subst e; simp at hql; omega
  have h16 : qs.length ≤ 128 := by omega
  have nI : (ns.length : Int) ≤ 128 := by omega
  have zz := block_cell (block_on K8.out ((Below.refl _ _).alloc (Nat.le_refl _) (.cells #[] 44))) 0
  rw [← hql] at *
  have n1 : (1 : Int) ≤ qs.length := by omega
  go_upto_region 9 with (first
    | (at_builtin; refine app_A elem_node (fun _ => rfl) (fun q hq => nx_one (HQ8.out.each q hq)) rfl _ _ rfl rfl (Own.blk (enc := Nx.cells) (k := 19) (e := 44) (B := w8.heap.size) (w := w8.alloc (.cells #[] 44)) (xs := []) (fun _ => rfl) (Nat.le_refl _) (alloc_block w8 _) (by unfold maxLen; simp)) rfl (SlAt.on HQ8.out.sl ((Below.refl _ _).alloc (Nat.le_refl _) _)) hne (by simp; omega) (by decide) (by simp) ?_; intro v9 w9 ho hg hat; rw [List.nil_append] at ho; obtain ⟨p9, c9, rfl⟩ := Own.form ho; have HO9 := hid ho; have hk9 := Kp.grown (T := fun b => b = w8.heap.size) hg (fun b e => by cases e; rfl); have HB9 := hid (((Below.refl w8.heap.size w8).alloc (Nat.le_refl _) (.cells #[] 44)).trans (hk9.below (by simp) (fun b e => by omega))); clear ho hg hat hk9)
    | (at_builtin; refine app_A elem_node (fun _ => rfl) (ys := [notN w9.heap.size ((qs.length : Int) - 1)]) (by intro y hy c hc; simp at hy; subst hy; exact not_one _ _ c hc) rfl _ _ rfl rfl (HO9.out.on (((Below.refl _ _).alloc (Nat.le_refl _) _).alloc (by simp) _)) rfl (Own.sl (notN_own w9 ((qs.length : Int) - 1)) (fun _ => rfl)) (by simp) (by simp; omega) (by decide) (by have := HB9.out.size; simp; omega) ?_; intro va wa ho hg hat; obtain ⟨pa', ca, rfl⟩ := Own.form ho; have HOa : Hid (Own Nx.cells 19 44 w8.heap.size wa (.slice pa' (qs.length + 1) ca) (qs ++ [notN w9.heap.size ((qs.length : Int) - 1)])) := hid (by have h := ho; rw [show (qs ++ [notN w9.heap.size ((qs.length : Int) - 1)]).length = qs.length + 1 from by simp] at h; exact h); have HGa := hid hg; have yk := block_cell (block_on K8.out (two_below HB9.out HO9.out _ _ hg)) 0; have xk := block_frozen (block_on K8.out (two_below HB9.out HO9.out _ _ hg)) 0; clear ho hg hat))
  have HNX := hid (rfl : (qs ++ [notN w9.heap.size ((qs.length : Int) - 1)]) = (qs ++ [notN w9.heap.size ((qs.length : Int) - 1)]))
  have hb9a : Below w9.heap.size w9 ((w9.alloc (.cells #[.int .i64 ((qs.length : Int) - 1)] 3)).alloc (.cells (notC w9.heap.size) 44)) := ((Below.refl _ _).alloc (Nat.le_refl _) _).alloc (by simp) _
  have hka := Kp.grown (T := fun b => (Value.slice p9 qs.length c9).ownBlock = some b) HGa.out (fun b e => e)
  have hp9 : ∀ b, (Value.slice p9 qs.length c9).ownBlock = some b → w8.heap.size ≤ b ∧ b < w9.heap.size := fun b e => HO9.out.at e
  have hs89 := HB9.out.size
  have hsa := hka.size
  have hl7 := HL7.out
  have hba : Below w8.heap.size w8 wa := (TN.below_on HB9.out hb9a).trans (hka.below (by simp; omega) (fun b e => (hp9 b e).1))
  have hqa : Qx (fun b => b ≠ w7.heap.size ∧ b < wa.heap.size) wa (.slice pa' (qs.length + 1) ca) (qs ++ [notN w9.heap.size ((qs.length : Int) - 1)]) := ⟨(HOa.out.sl (fun _ => rfl)).imp (fun b hb => ⟨by have := hb.1; omega, hb.2⟩), fun q hq => by
    have hsz := hba.size
    rcases List.mem_append.1 hq with h | h
    · have h1 := (HQ8.out.each q h).kp (T := fun _ => False) (Kp.of hba) (fun _ _ => id)
      exact ⟨h1.l.imp (fun b hb => ⟨by omega, by omega⟩), h1.n.imp (fun b hb => ⟨by omega, by omega⟩), h1.g.imp (fun b hb => ⟨by omega, by omega⟩)⟩
    · simp at h
      subst h
      refine ⟨((SlAt.kp (T := fun b => (Value.slice p9 qs.length c9).ownBlock = some b) ((notL_at w9 ((qs.length : Int) - 1)).kp (T := fun _ => False) (Kp.of ((Below.refl _ _).alloc (Nat.le_refl _) (.cells (notC w9.heap.size) 44))) (fun _ _ => id)) hka (fun b e h => by have := (hp9 b h).2; omega)).imp (fun b e => ⟨by omega, by simp at hsa; omega⟩)), ?_, ?_⟩
      · exact ⟨none, 0, rfl, ⟨Nat.le_refl _, by unfold maxLen; omega⟩, fun h => absurd rfl h⟩
      · exact ⟨none, 0, rfl, ⟨Nat.le_refl _, by unfold maxLen; omega⟩, fun h => absurd rfl h⟩⟩
  have hkf : Kp (fun b => b = w7.heap.size) wa (wa.setCell ⟨w7.heap.size, 0, none⟩ (.slice pa' (qs.length + 1) ca)) := Kp.set (T := fun b => b = w7.heap.size) rfl _
  have KQ := hid (block_set (block_on K8.out hba) 0 (.slice pa' (qs.length + 1) ca))
  have hqf := hqa.kp hkf (fun b hb e => hb.1 e)
  have HQf : Hid (Qx (fun b => b < (wa.setCell ⟨w7.heap.size, 0, none⟩ (.slice pa' (qs.length + 1) ca)).heap.size) _ _ _) := hid ⟨hqf.sl.imp (fun b hb => by have := hkf.size; omega), fun q hq => ⟨(hqf.each q hq).l.imp (fun b hb => by have := hkf.size; omega), (hqf.each q hq).n.imp (fun b hb => by have := hkf.size; omega), (hqf.each q hq).g.imp (fun b hb => by have := hkf.size; omega)⟩⟩
  have hs5 := HB8.out.size
  have h58 : w5.heap.size ≤ w7.heap.size := HB7.out.size
  have h5f : Below w5.heap.size w5 (wa.setCell ⟨w7.heap.size, 0, none⟩ (.slice pa' (qs.length + 1) ca)) := (HB8.out.trans (hba.mono hs5)).trans (hkf.below (by have := hba.size; omega) (fun b e => by omega))
  have H5f := hid h5f
  clear hb9a hka hp9 hba hqa hkf hqf h5f zz y1 yk xk HGa HOa HO9 HB9
  generalize wa.setCell ⟨w7.heap.size, 0, none⟩ (.slice pa' (qs.length + 1) ca) = wf at *
  have HBf := hid (HB5.out.trans (H5f.out.mono HB5.out.size))
  have HTf := hid (HT5.out.on H5f.out)
  have HMf := hid (HM5.out.on H5f.out)
  have KTf := hid (block_on HKt5.out H5f.out)
  have hlen : (qs ++ [notN w9.heap.size ((qs.length : Int) - 1)]).length ≤ 1000 := by simp; omega
  have HLq := hid hlen
  have HX1 : Hid (∀ r, holdsX cs (qs ++ [notN w9.heap.size ((qs.length : Int) - 1)]) ((qs.length : Int) - 1) r = holdsX cs qs ((qs.length : Int) - 1) r) := hid (fun r => holdsX_old (by omega))
  have HX2 : Hid (∀ r, holdsX cs (qs ++ [notN w9.heap.size ((qs.length : Int) - 1)]) (qs.length : Int) r = !holdsX cs qs ((qs.length : Int) - 1) r) := hid (fun r => holdsX_not (by omega) rfl rfl)
  clear HNX hlen
  generalize qs ++ [notN w9.heap.size ((qs.length : Int) - 1)] = qn at *
  have HRe : rs4.length ≤ 1000000 := by have := HLR.out; omega
  have HWa := hid (fun W (hT : TN.TabIn (fun b => b < w.heap.size) W (.agg #[.slice pc cs.length cc, .slice pr hs4.length cr]) cs rs4) (hQ : Qx (fun b => b < W.heap.size) W (.slice pa' (qs.length + 1) ca) qn) (hM : Mx W) (i : Int) => show Calls Try.prog 14 #[.agg #[.slice pc cs.length cc, .slice pr hs4.length cr], .agg #[.slice pa' (qs.length + 1) ca], .int .i64 i] W (WhP' cs (rs4.filter (holdsX cs qn i)) W) by
    obtain ⟨c', r', e', hc, hs', hr, hh⟩ := hT
    cases e'
    exact where_any (i := i) hQ HLq.out (hc.imp (fun _ _ => trivial)) (hr.imp (fun _ _ => trivial)) ⟨hh.1, fun j x r h1 h2 => (hh.2 j x r h1 h2).imp (fun _ _ => trivial)⟩ hM (fun _ _ _ r hr => HRz.out r hr) HRe)
  have HRl := hid HRe
  clear HRe
  have z0 := block_cell KTf.out
  have z1 := block_cell KQ.out 0
  go_upto_region 10 with (first
    | (go_at_call 14; refine (HWa.out _ HTf.out HQf.out HMf.out _).mono ?_; rintro e wg ⟨cvg, rvg, hsg, rfl, hcg, hrg, hb⟩; have HRg := hid hrg; have HBg := hid hb; obtain ⟨pcg, ccg, rfl, -⟩ := id hcg; obtain ⟨prg, crg, hprg, -⟩ := own_head hrg.own; subst hprg; have HCg := hid hcg; clear hcg hrg hb z0 z1))
  have kg := alloc_block wg (.cells #[.slice pcg cs.length ccg, .slice prg hsg.length crg] 25)
  have hag : Below wg.heap.size wg (wg.alloc (.cells #[.slice pcg cs.length ccg, .slice prg hsg.length crg] 25)) := (Below.refl _ _).alloc (Nat.le_refl _) _
  have HBh := hid (TN.below_on HBg.out hag)
  have Kg := hid kg
  have HRh := hid (HRg.out.on hag)
  clear kg hag HRg HBg HCg
  generalize wg.alloc (.cells #[.slice pcg cs.length ccg, .slice prg hsg.length crg] 25) = wh at *
  have HTh := hid (HTf.out.on HBh.out)
  have HMh := hid (HMf.out.on HBh.out)
  have HQh := hid (qx_on HQf.out (Nat.le_refl _) HBh.out)
  have z0 := block_cell (block_on KTf.out HBh.out)
  have z1 := block_cell (block_on KQ.out HBh.out) 0
  go_upto_region 11 with (first
    | (go_at_call 14; refine (HWa.out _ HTh.out HQh.out HMh.out _).mono ?_; rintro e wi ⟨cvi, rvi, hsi, rfl, hci, hri, hb⟩; have HRi := hid hri; have HBi := hid hb; obtain ⟨pci, cci, rfl, -⟩ := id hci; obtain ⟨pri, cri, hpri, -⟩ := own_head hri.own; subst hpri; clear hci hri hb z0 z1))
  have ki := alloc_block wi (.cells #[.slice pci cs.length cci, .slice pri hsi.length cri] 25)
  have hai : Below wi.heap.size wi (wi.alloc (.cells #[.slice pci cs.length cci, .slice pri hsi.length cri] 25)) := (Below.refl _ _).alloc (Nat.le_refl _) _
  have HBj := hid (TN.below_on HBi.out hai)
  have Kj := hid ki
  have HRb := hid (HRi.out.on hai)
  clear ki hai HRi HBi
  generalize wi.alloc (.cells #[.slice pci cs.length cci, .slice pri hsi.length cri] 25) = wj at *
  have HRa := hid (HRh.out.on HBj.out)
  have Ka := hid (block_on Kg.out HBj.out)
  have HBfj := hid (TN.below_on HBh.out HBj.out)
  have HTj := hid (HTf.out.on HBfj.out)
  have HMj := hid (HMf.out.on HBfj.out)
  have HQj := hid (qx_on HQf.out (Nat.le_refl _) HBfj.out)
  have KTj := hid (block_on KTf.out HBfj.out)
  have KQj := hid (block_on KQ.out HBfj.out)
  have HBj0 := hid (HBf.out.trans (HBfj.out.mono HBf.out.size))
  have e1 : rs4.filter (holdsX cs qn ((qs.length : Int) - 1)) = rs4.filter (holdsX cs qs ((qs.length : Int) - 1)) := by congr 1; funext r; exact HX1.out r
  have e2 : rs4.filter (holdsX cs qn (qs.length : Int)) = rs4.filter (fun r => !holdsX cs qs ((qs.length : Int) - 1) r) := by congr 1; funext r; exact HX2.out r
  rw [e1] at HRa
  rw [e2] at HRb
  have HSo : Hid (TN.sortR (rs4.filter (holdsX cs qs ((qs.length : Int) - 1)) ++ rs4.filter (fun r => !holdsX cs qs ((qs.length : Int) - 1) r)) = TN.sortR rs4) := hid (sortR_parts _ _)
  have HN1 : Hid ((rs4.filter (holdsX cs qs ((qs.length : Int) - 1))).length ≤ 100) := hid (Nat.le_trans (List.length_filter_le _ _) HLR.out)
  have HN2 : Hid ((rs4.filter (fun r => !holdsX cs qs ((qs.length : Int) - 1) r)).length ≤ 100) := hid (Nat.le_trans (List.length_filter_le _ _) HLR.out)
  clear e1 e2 HRh Kg HTh HMh HQh HBh HBj HTf HMf HQf
  generalize rs4.filter (holdsX cs qs ((qs.length : Int) - 1)) = R1 at *
  generalize rs4.filter (fun r => !holdsX cs qs ((qs.length : Int) - 1) r) = R2 at *
  obtain ⟨c', r', e', hc', hs5, hr', hh'⟩ := HTj.out
  cases e'
  have HCj := hid hc'
  have HRj := hid hr'
  have HHj := hid hh'
  clear hc' hr' hh'
  go_cut [15] from 63 to 72 (fun x wx => ∃ qq p n c, x = .pointer (some ⟨qq, 0, none⟩) ∧ Hid (wx.heap[qq]? = some (.cells #[.slice pc cs.length cc, .slice p n c] 25 (0, 0))) ∧ Hid (TN.TabAt wx (.agg #[.slice pc cs.length cc, .slice p n c]) cs (R1 ++ R2)) ∧ Hid (Below wj.heap.size wj wx))
  case first =>
    have hlg : hsg.length ≤ 100 := by rw [HRa.out.len]; exact HN1.out
    have hli : hsi.length ≤ 100 := by rw [HRb.out.len]; exact HN2.out
    have hbe : Below wj.heap.size wj (wj.alloc (.cells #[] 48)) := (Below.refl _ _).alloc (Nat.le_refl _) _
    have hba : Below wj.heap.size wj (wj.alloc (.cells #[] 48)).drew := hbe.drew
    have HBa := hid hba
    have HOa := hid ((TN.Own.on (TN.Own.made TN.one 1 48 wj.heap.size wj (Nat.le_refl _)) (Below.refl _ _).drew : TN.Own TN.one 1 48 wj.heap.size (wj.alloc (.cells #[] 48)).drew _ _))
    have HLa := hid (TN.SlAt.on (own_tnB HRa.out.own (by omega)) hba)
    have HLb := hid (own_tnB HRb.out.own (by omega))
    have HZa : Hid (wj.heap.size ≤ (wj.alloc (.cells #[] 48)).drew.heap.size) := hid hba.size
    have HM1 : Hid ((([] : List Value).length + hsg.length) * TN.bsz 1 ≤ 140737488355328) := hid (big1n (by simp; omega))
    have HM2 : Hid ((([] ++ hsg : List Value).length + hsi.length) * TN.bsz 1 ≤ 140737488355328) := hid (big1n (by simp; omega))
    have HS1 := hid (rws_one HRa.out)
    have HS2 := hid (rws_one HRb.out)
    have ta0 : wj.cell? ⟨w.heap.size, 0, none⟩ = some (.slice pc cs.length cc) := block_cell KTj.out 0
    have ta1 : wj.cell? ⟨wg.heap.size, 1, none⟩ = some (.slice prg hsg.length crg) := block_cell Ka.out 1
    have tb1 : wj.cell? ⟨wi.heap.size, 1, none⟩ = some (.slice pri hsi.length cri) := block_cell Kj.out 1
    have hbt : Below wj.heap.size wj ((wj.alloc (.cells #[] 48)).alloc (.cells #[.slice none 0 0, .slice none 0 0] 25)).drew := (((Below.refl _ _).alloc (Nat.le_refl _) _).alloc (by simp) _).drew
    have HBt := hid hbt
    have hxt : Below (wj.alloc (.cells #[] 48)).heap.size (wj.alloc (.cells #[] 48)) ((wj.alloc (.cells #[] 48)).alloc (.cells #[.slice none 0 0, .slice none 0 0] 25)).drew := ((Below.refl _ _).alloc (Nat.le_refl _) _).drew
    have HOt := hid (TN.Own.on (TN.Own.made TN.one 1 48 wj.heap.size wj (Nat.le_refl _)) hxt)
    have HLt := hid (TN.SlAt.on (own_tnB HRa.out.own (by omega)) hbt)
    have HZt := hid hbt.size
    have KTt : Hid (((wj.alloc (.cells #[] 48)).alloc (.cells #[.slice none 0 0, .slice none 0 0] 25)).drew.heap[wj.heap.size + 1]? = some (.cells #[.slice none 0 0, .slice none 0 0] 25 (0, 0))) := hid (by
      have := block_on (alloc_block (wj.alloc (.cells #[] 48)) (.cells #[.slice none 0 0, .slice none 0 0] 25)) ((Below.refl _ _).drew)
      simpa using this)
    have hbu : Below wj.heap.size wj ((wj.alloc (.cells #[.slice none 0 0, .slice none 0 0] 25)).alloc (.cells #[] 48)).drew := (((Below.refl _ _).alloc (Nat.le_refl _) _).alloc (by simp) _).drew
    have HBu := hid hbu
    have hxu : Below ((wj.alloc (.cells #[.slice none 0 0, .slice none 0 0] 25)).alloc (.cells #[] 48)).heap.size ((wj.alloc (.cells #[.slice none 0 0, .slice none 0 0] 25)).alloc (.cells #[] 48)) ((wj.alloc (.cells #[.slice none 0 0, .slice none 0 0] 25)).alloc (.cells #[] 48)).drew := (Below.refl _ _).drew
    have HOu : Hid (TN.Own TN.one 1 48 wj.heap.size ((wj.alloc (.cells #[.slice none 0 0, .slice none 0 0] 25)).alloc (.cells #[] 48)).drew (.slice (some ⟨wj.heap.size + 1, 0, none⟩) 0 0) ([] : List Value)) := hid (by
      have := TN.Own.on (TN.Own.made TN.one 1 48 wj.heap.size (wj.alloc (.cells #[.slice none 0 0, .slice none 0 0] 25)) (by simp)) hxu
      simpa using this)
    have HLu := hid (TN.SlAt.on (own_tnB HRa.out.own (by omega)) hbu)
    have HZu := hid hbu.size
    have KTu : Hid (((wj.alloc (.cells #[.slice none 0 0, .slice none 0 0] 25)).alloc (.cells #[] 48)).drew.heap[wj.heap.size]? = some (.cells #[.slice none 0 0, .slice none 0 0] 25 (0, 0))) := hid (block_on (alloc_block wj (.cells #[.slice none 0 0, .slice none 0 0] 25)) (((Below.refl _ _).alloc (Nat.le_refl _) _).drew))
    clear hba hbe hbt hxt hbu hxu
    have hS0 : Tn3 w.heap.size wg.heap.size wi.heap.size (.slice pc cs.length cc) (.slice prg hsg.length crg) (.slice pri hsi.length cri) wj := ⟨ta0, ta1, tb1⟩
    have hl0 : w.heap.size < wj.heap.size := block_lt_of_cell ta0
    have hl1 : wg.heap.size < wj.heap.size := block_lt_of_cell ta1
    have hl2 : wi.heap.size < wj.heap.size := block_lt_of_cell tb1
    have HFin : Hid (∀ (wq : World) (p : Option Addr) (n c b : Nat), Below wj.heap.size wj wq → Own TN.one 1 48 wj.heap.size wq (.slice p n c) (hsg ++ hsi) → wj.heap.size ≤ b → (Value.slice p n c).ownBlock ≠ some b → TN.TabIn (fun k => k ≠ b) wq (.agg #[.slice pc cs.length cc, .slice p n c]) cs (R1 ++ R2)) := hid (fun wq p n c b hb ho h1 h2 => by
      have hc := TN.SlAt.imp (TN.SlAt.on HCj.out hb) (Q' := fun k => k ≠ b) (fun k hk => by omega)
      have hh := (TN.heads_low (heads_app (rws_heads HRa.out) (rws_heads HRb.out))).on hb
      exact ⟨_, _, rfl, hc, hsg ++ hsi, TN.SlAt.imp (own_tnO ho (by rw [List.length_append]; omega)) (fun k hk e => h2 (by rw [hk, e])), hh.imp (fun k hk => by omega)⟩)
    clear HB0 HH0 HM0 HP HZ HC0 HR0 KT0 HB3 HKt HC3 HR3 HH3 HM3 HRz HLR HB4 HKt4 HKt5 HB5 HM5 HT5 HB6 HT6 HN7 HB7 K8 HQ8 HL7 HB8 HL HK d0 hn0 hn1 hne h16 nI n1 hs89 hsa hl7 h58 KQ H5f HBf KTf HLq HX1 HX2 HWa HRl hql HNs HQL HBfj HTj HMj HQj KQj HBj0 HSo ta0 ta1 tb1 hlg hli HN1 HN2
    go_region_held_law (Tn3 w.heap.size wg.heap.size wi.heap.size (.slice pc cs.length cc) (.slice prg hsg.length crg) (.slice pri hsi.length cri)) (((repeat (first | (with_reducible refine T3D ?_) | (with_reducible refine T3A ?_) | (with_reducible refine T3S (by omega) (by omega) (by omega) ?_))); (with_reducible assumption))) (first
      | (refine TN.step_app TN.elem35 TN.one_len HS2.out rfl (.tmp 68) (.tmp 70) rfl rfl rfl HO5c.out HL5c.out HM2.out HZ5c.out ?_; intro v6 wq6 ho hb hg; have HO6 := hid ho; obtain ⟨p6, c6, e6⟩ := Own.form (show Own TN.one 1 48 wj.heap.size wq6 v6 _ from ho); subst e6; have HB6 := hid (HB5c.out.trans hb); have hz6 := HB6.out.size; have hS6 := T3B hS0 HB6.out hl0 hl1 hl2; have K6 := hid ((Kp.grown (T := fun b => (Value.slice p5 _ c5).ownBlock = some b) hg (fun b e => e)).blk KT5c.out (own_ne HO5c.out KT5c.out (by decide))); have z6 := block_cell K6.out 0; have z7 := block_cell K6.out 1; have f6 := block_frozen K6.out; clear ho hb hg)
      | (refine TN.step_app TN.elem35 TN.one_len HS1.out rfl (.tmp 65) (.tmp 67) rfl rfl rfl HOt.out HLt.out HM1.out HZt.out ?_; intro v5 wq5 ho hb hg; obtain ⟨p5, c5, e5⟩ := Own.form (show Own TN.one 1 48 wj.heap.size wq5 v5 _ from ho); subst e5; have HO5c := hid ho; have HB5c := hid (HBt.out.trans hb); have HL5c := hid (TN.SlAt.on HLb.out HB5c.out); have HZ5c := hid HB5c.out.size; have hz5c := HB5c.out.size; have hS5c := T3B hS0 HB5c.out hl0 hl1 hl2; have KT5c := hid ((Kp.grown (T := fun b => (Value.slice (some ⟨wj.heap.size, 0, none⟩) 0 0).ownBlock = some b) hg (fun b e => e)).blk KTt.out (fun e => by have h := Option.some.inj (show some wj.heap.size = some (wj.heap.size + 1) from e); omega)); clear ho hb hg)
      | (refine TN.step_app TN.elem35 TN.one_len HS2.out rfl (.tmp 68) (.tmp 70) rfl rfl rfl HO5u.out HL5u.out HM2.out HZ5u.out ?_; intro v6 wq6 ho hb hg; have HO6 := hid ho; obtain ⟨p6, c6, e6⟩ := Own.form (show Own TN.one 1 48 wj.heap.size wq6 v6 _ from ho); subst e6; have HB6 := hid (HB5u.out.trans hb); have hz6 := HB6.out.size; have hS6 := T3B hS0 HB6.out hl0 hl1 hl2; have K6 := hid ((Kp.grown (T := fun b => (Value.slice p5 _ c5).ownBlock = some b) hg (fun b e => e)).blk KT5u.out (own_ne HO5u.out KT5u.out (by decide))); have z6 := block_cell K6.out 0; have z7 := block_cell K6.out 1; have f6 := block_frozen K6.out; clear ho hb hg)
      | (refine TN.step_app TN.elem35 TN.one_len HS1.out rfl (.tmp 65) (.tmp 67) rfl rfl rfl HOu.out HLu.out HM1.out HZu.out ?_; intro v5 wq5 ho hb hg; obtain ⟨p5, c5, e5⟩ := Own.form (show Own TN.one 1 48 wj.heap.size wq5 v5 _ from ho); subst e5; have HO5u := hid ho; have HB5u := hid (HBu.out.trans hb); have HL5u := hid (TN.SlAt.on HLb.out HB5u.out); have HZ5u := hid HB5u.out.size; have hz5u := HB5u.out.size; have hS5u := T3B hS0 HB5u.out hl0 hl1 hl2; have KT5u := hid ((Kp.grown (T := fun b => (Value.slice (some ⟨wj.heap.size + 1, 0, none⟩) 0 0).ownBlock = some b) hg (fun b e => e)).blk KTu.out (fun e => by have h := Option.some.inj (show some (wj.heap.size + 1) = some wj.heap.size from e); omega)); clear ho hb hg)
      | (refine TN.step_app TN.elem35 TN.one_len HS2.out rfl (.tmp 68) (.tmp 70) rfl rfl rfl HO5.out HL5.out HM2.out HZ5.out ?_; intro v6 wq6 ho hb hg; have HO6 := hid ho; obtain ⟨p6, c6, e6⟩ := Own.form (show Own TN.one 1 48 wj.heap.size wq6 v6 _ from ho); subst e6; have HB6 := hid (HB5.out.trans hb); have hz6 := HB6.out.size; have hS6 := T3B hS0 HB6.out hl0 hl1 hl2; clear ho hb hg)
      | (refine TN.step_app TN.elem35 TN.one_len HS2.out rfl (.tmp 68) (.tmp 70) rfl rfl rfl HO5t.out HL5t.out HM2.out HZ5t.out ?_; intro v6 wq6 ho hb hg; have HO6 := hid ho; obtain ⟨p6, c6, e6⟩ := Own.form (show Own TN.one 1 48 wj.heap.size wq6 v6 _ from ho); subst e6; have HB6 := hid (HB5t.out.trans hb); have hz6 := HB6.out.size; have hS6 := T3B hS0 HB6.out hl0 hl1 hl2; have K6 := hid ((Kp.grown (T := fun b => (Value.slice p5 _ c5).ownBlock = some b) hg (fun b e => e)).blk (alloc_block wq5 (.cells #[.slice none 0 0, .slice none 0 0] 25)) (fun e => by have := (World.ownsRow.lt HO5.out _ e).2; omega)); have z6 := block_cell K6.out 0; have z7 := block_cell K6.out 1; have f6 := block_frozen K6.out; clear ho hb hg)
      | (refine TN.step_app TN.elem35 TN.one_len HS1.out rfl (.tmp 65) (.tmp 67) rfl rfl rfl HOa.out HLa.out HM1.out HZa.out ?_; intro v5 wq5 ho hb hg; obtain ⟨p5, c5, e5⟩ := Own.form (show Own TN.one 1 48 wj.heap.size wq5 v5 _ from ho); subst e5; have HO5 := hid ho; have HB5 := hid (HBa.out.trans hb); have HL5 := hid (TN.SlAt.on HLb.out HB5.out); have HZ5 := hid HB5.out.size; have hz5 := HB5.out.size; have hS5 := T3B hS0 HB5.out hl0 hl1 hl2; have hx5 : Below wq5.heap.size wq5 (wq5.alloc (.cells #[.slice none 0 0, .slice none 0 0] 25)) := (Below.refl _ _).alloc (Nat.le_refl _) _; have HO5t := hid (TN.Own.on ho hx5); have HL5t := hid (TN.SlAt.on HL5.out hx5); have hS5t := T3A (X := (.cells #[.slice none 0 0, .slice none 0 0] 25)) hS5; have HZ5t := hid (Nat.le_trans HZ5.out hx5.size); have HB5t := hid (TN.below_on HB5.out hx5); clear ho hb hg hx5))
    all_goals
      have HO7 : Own TN.one 1 48 wj.heap.size wq6 (.slice p6 (hsg.length + hsi.length) c6) (hsg ++ hsi) := by
        have h := HO6.out
        simp at h
        exact h
      have hs6 := HB6.out.size
      go_wp2_with fail
      go_meet
      case rel => first
        | exact ⟨_, _, _, _, rfl, hid (alloc_block wq6 _), hid ((TN.TabIn.at (HFin.out wq6 _ _ _ wq6.heap.size HB6.out HO7 hs6 (fun e => by have := (World.ownsRow.lt HO7 _ e).2; omega))).on ((Below.refl _ _).alloc (Nat.le_refl _) _)), hid (HB6.out.alloc hs6 _)⟩
        | exact ⟨_, _, _, _, rfl, hid (block_set (block_set K6.out 0 _) 1 _), hid (TN.TabIn.at (TN.TabIn.set (fun b hb => hb) (TN.TabIn.set (fun b hb => hb) (HFin.out wq6 _ _ _ _ HB6.out HO7 (by omega) (own_ne (e := 48) HO7 K6.out (by decide)))))), hid (TN.below_set (TN.below_set HB6.out (by omega)) (by omega))⟩
  case rest =>
    obtain ⟨qq, pz, nz, cz, rfl, HKb, HTb, HBx⟩ := hcut
    generalize wc = wE at *
    have HTt := hid (HTj.out.on HBx.out)
    have KTe := hid (block_on KTj.out HBx.out)
    have HCn1 := hid (fun W (hb : Below wE.heap.size wE W) => (TN.rcanon_any (HTb.out.on hb)))
    have HCn2 := hid (fun W (hb : Below wE.heap.size wE W) => (TN.rcanon_any ((TN.TabIn.at HTt.out).on hb)))
    have HSm := hid (fun W u v (hu : TN.TabAt W u cs (TN.sortR (R1 ++ R2))) (hv : TN.TabAt W v cs (TN.sortR rs4)) => ((TN.rsame_any hu hv).mono (fun e w' h => ⟨by rw [h.1, HSo.out, decide_eq_true ⟨rfl, rfl⟩], h.2⟩) : Calls Try.prog 15 #[u, v] W fun e w' => e = .returned (.bool true) ∧ Below W.heap.size W w'))
    go_upto_region 12 with fail
    go_cut [16] from 73 to 77 (fun x wx => x = .bool true ∧ Hid (Below wE.heap.size wE wx))
    case first =>
      have hd : Below wE.heap.size wE wE.drew := (Below.refl _ _).drew
      have HD := hid hd
      have hS0 : T4 qq w.heap.size (.slice pc cs.length cc) (.slice pz nz cz) (.slice pc cs.length cc) (.slice pr hs4.length cr) wE := ⟨block_cell HKb.out 0, block_cell HKb.out 1, block_cell KTe.out 0, block_cell KTe.out 1⟩
      have hl0 : qq < wE.heap.size := lt_of_block HKb.out
      have hl1 : w.heap.size < wE.heap.size := lt_of_block KTe.out
      clear hd KTe HB0 HH0 HM0 HP HZ HC0 HR0 KT0 HB3 HKt HC3 HR3 HH3 HM3 HRz HLR HB4 HKt4 HKt5 HB5 HM5 HT5 HB6 HT6 HN7 HB7 K8 HQ8 HL7 HB8 HBt HL HK d0 hn0 hn1 hne h16 nI n1 hs89 hsa hl7 h58 KQ H5f HBf KTf HLq HX1 HX2 HWa HRl hql HNs HQL Kj Ka HBfj HTj HMj HQj KTj KQj HBj0 HRa HN1 HRb HN2 HSo HCj HRj HHj HTb HBx HTt HKb
      have z0 : wE.cell? ⟨qq, 0, none⟩ = some (.slice pc cs.length cc) := hS0.1
      have z1 : wE.cell? ⟨qq, 1, none⟩ = some (.slice pz nz cz) := hS0.2.1
      have z2 : wE.cell? ⟨w.heap.size, 0, none⟩ = some (.slice pc cs.length cc) := hS0.2.2.1
      have z3 : wE.cell? ⟨w.heap.size, 1, none⟩ = some (.slice pr hs4.length cr) := hS0.2.2.2
      have HS0 := hid hS0
      clear hS0
      go_region_law (first
        | (refine step_call1N (v := .agg #[.slice pc cs.length cc, .slice pz nz cz]) rfl (.tmp 73) 25 rfl (by simp [Act.eval]) enters_dcanon ?_; refine (HCn1.out _ HD.out).mono ?_; rintro e wA ⟨vA, rfl, htA, hb⟩; refine ⟨_, rfl, ?_⟩; have HTA := hid htA; have HBA := hid (TN.below_on HD.out hb); have y2 := (T4B HS0.out HBA.out hl0 hl1).2.2.1; have y3 := (T4B HS0.out HBA.out hl0 hl1).2.2.2; clear hb htA z0 z1)
        | (refine step_call1N (v := .agg #[.slice pc cs.length cc, .slice pr hs4.length cr]) rfl (.tmp 75) 25 rfl (by simp [Act.eval]) enters_dcanon ?_; refine (HCn2.out _ HBA.out).mono ?_; rintro e wB ⟨vB, rfl, htB, hb⟩; refine ⟨_, rfl, ?_⟩; have HTB := hid htB; have HTA2 := hid (HTA.out.on hb); have HBB := hid (TN.below_on HBA.out hb); clear hb htB)
        | (refine step_call2N (v := vA) (v2 := vB) rfl (.tmp 74) (.tmp 76) 25 25 rfl (by simp [Act.eval]) (by simp [Act.eval]) enters_dsame ?_; refine (HSm.out _ _ _ HTA2.out HTB.out).mono ?_; rintro e wC ⟨rfl, hb⟩; refine ⟨_, rfl, ?_⟩; have HBC := hid (TN.below_on HBB.out hb); clear hb))
      all_goals
        go_wp2_with fail
        go_meet
        case rel => exact ⟨rfl, HBC.out⟩
    case rest =>
      obtain ⟨rfl, HBy⟩ := hcut
      generalize wc = wF at *
      have HBz := hid (TN.below_on HBx.out HBy.out)
      have HTF := hid (block_on KTj.out HBz.out)
      have HQF := hid (block_on KQj.out HBz.out)
      have hm5 : hs5.length = hs4.length := by
        obtain ⟨p', c', e', -⟩ := id HRj.out
        injection e' with _ e2 _
        exact e2.symm
      have hlr : hs5.length = rs4.length := HHj.out.1
      obtain ⟨m, hm⟩ : ∃ m, hs4.length = m := ⟨_, rfl⟩
      have HMm := hid (show hs5.length = m by rw [hm5, hm])
      have HMr := hid (show rs4.length = m by rw [← hlr, hm5, hm])
      have HRF := hid (HRj.out.on HBz.out)
      have HHF := hid (HHj.out.on HBz.out)
      rw [hm] at HTF HRF
      have mI : (m : Int) ≤ 100 := by have := HLR.out; have := HMr.out; omega
      have HDh : Hid (∀ (i : Int) W, Below wF.heap.size wF W → ∀ rv r, TN.RowAt W rv r → Rsz r → Calls Try.prog 17 #[.agg #[.slice pa' (qs.length + 1) ca], .int .i64 i, .slice pc cs.length cc, rv] W fun e w' => e = .returned (.bool (holdsX cs qn i r)) ∧ Below W.heap.size W w') := hid (fun i W hb rv r hr hz => holds_any i (qx_on HQj.out (Nat.le_refl _) (TN.below_on HBz.out hb)) HLq.out ((HCj.out.on (TN.below_on HBz.out hb)).imp (fun _ _ => trivial)) hr (HMj.out.on (TN.below_on HBz.out hb)) (fun _ _ _ => hz))
      have HBF := hid (HBj0.out.trans (HBz.out.mono HBj0.out.size))
      clear hm5 hlr hm HTb HKb HBx HTt KTe HCn1 HCn2 HSm HBy HTj KTj KQj HQj HMj HCj HRj HHj HBj0 HRa HRb HN1 HN2 HSo Kj Ka HBfj HBz HL HK HWa HNs K8 HQ8 HT5 HM5 HKt5 HN7
      have q1 : (1 : Int) ≤ (qs.length : Int) := by omega
      have q2 : (qs.length : Int) ≤ 128 := by omega
      generalize hnn : (qs.length : Int) = nn at *
      clear hnn
      go_upto_region 14 with fail
      go_loopw [17] (fun x wr => ∃ k : Nat, k ≤ m ∧ x = .int .i64 k ∧ Hid (Below wF.heap.size wF wr)) (fun x _ => m - (intOf x).toNat)
      case atStart => exact ⟨0, by omega, rfl, Below.refl _ _⟩
      case round =>
        obtain ⟨k, hk, rfl, HBr⟩ := hrel
        have HTr := hid (block_on HTF.out HBr.out)
        have HQr := hid (block_on HQF.out HBr.out)
        have y1 := block_cell HTr.out
        by_cases hkm : k < m
        · have kI : (k : Int) < m := by omega
          have k0 : (0 : Int) ≤ k := by omega
          obtain ⟨h, hh⟩ : ∃ h, hs5[k]? = some h := ⟨_, List.getElem?_eq_getElem (by have := HMm.out; omega)⟩
          obtain ⟨r, hrr⟩ : ∃ r, rs4[k]? = some r := ⟨_, List.getElem?_eq_getElem (by have := HMr.out; omega)⟩
          have hrow := HHF.out.2 k h r hh hrr
          obtain ⟨bh, oh, cellh⟩ : ∃ b o, pr = some ⟨b, o, none⟩ ∧ wr.cell? ⟨b, o + k, none⟩ = some h := by
            obtain ⟨p', c', e', -, -, hx⟩ := HRF.out.on HBr.out
            injection e' with e1 _ _
            obtain ⟨b, o, hp, -, hj⟩ := hx (by intro e; rw [e] at hh; simp at hh)
            exact ⟨b, o, e1.trans hp, by have := hj k h hh 0 h rfl; simpa using this⟩
          obtain ⟨rfl, yh⟩ := cellh
          obtain ⟨ph, ch, eh, -⟩ := id hrow
          subst eh
          have HRow := hid hrow
          have HRr := hid (HRz.out r (List.mem_of_getElem? hrr))
          have HD1 := hid (fun W (hb : Below wr.heap.size wr W) => HDh.out (nn - 1) W (TN.below_on HBr.out hb) _ r ((HRow.out.on (TN.below_on HBr.out hb)).imp (fun _ _ => trivial)) HRr.out)
          have HD2 := hid (fun W (hb : Below wr.heap.size wr W) => HDh.out nn W (TN.below_on HBr.out hb) _ r ((HRow.out.on (TN.below_on HBr.out hb)).imp (fun _ _ => trivial)) HRr.out)
          rw [HX1.out r] at HD1
          rw [HX2.out r] at HD2
          have yq := TN.regrown_cell (block_cell HQr.out 0)
          have yc := TN.regrown_cell (block_cell HTr.out 0)
          have yr := TN.regrown_cell (block_cell HTr.out 1)
          have yh' := TN.regrown_cell yh
          generalize holdsX cs qs (nn - 1) r = z at *
          have zz : (z == !z) = false := by cases z <;> rfl
          clear hrow hrr hh
          go_upto_region 16 with fail
          refine wp_region_quiet_below (by kernel_rfl) (by kernel_rfl) ?_
          repeat (go_big_quiet_step (first
            | (go_at_call 17; with_reducible exact Calls.regrown_of (HD1.out _ (below_regrown _ _ _)))
            | (go_at_call 17; with_reducible exact Calls.regrown_of (HD2.out _ (below_regrown _ _ _)))))
          refine wpQuiet_nil ?_
          intro _ hw'
          obtain ⟨⟨dq, osq⟩, hw''⟩ := hw'
          subst hw''
          have HBg := hid (below_regrown wr dq osq)
          go_wp2_with fail
          go_roundw
          case rel => exact ⟨k + 1, by omega, by go_num, TN.below_on HBr.out HBg.out⟩
          case measure => simp [intOf]; omega
        · have hkm' : k = m := by omega
          have kI : ¬ (k : Int) < m := by omega
          clear hkm hkm'
          go_wp2_with fail
          go_ret
          exact ⟨rfl, HBF.out.trans (HBr.out.mono HBF.out.size)⟩
theorem predNot_b {s : ByteArray} {tv : Value} {cs : List TN.Cl} {rs : List TN.Rw} {w : World} (ht : TN.TabAt w tv cs rs) (hM : Mx w) (hz : ∀ r ∈ rs, Rsz r) (hl : s.size ≤ 1048576) : Calls Try.prog 3 #[.string s, tv] w fun e w' => e = .returned (.bool true) ∧ Below w.heap.size w w' := by
  have h3 : s.data.toList.length = s.size := rfl
  have := predNot_any (l := s.data.toList) ht hM hz (by omega)
  rwa [St_ofB] at this
end Go.Proofs.Ytjekpclbedbaoaa.PD
