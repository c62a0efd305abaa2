/-
  append and a call, each as one step of a region that draws its order; columns put behind columns.
  What schema.Cols and schema.Find return, for every schema.
  What schema.Find returns, for all schemas and every name.
-/
import Derived.Test.YtjfholofgohcjaaPU
import Derived.Deep.RegionLaw
namespace Go.Proofs.Ytjfholofgohcjaa
open Go.RowKit Go.Sort Go.Shelf

theorem step_appC {ops : Array Oper} {o : Oper} {a : Act} {w : World} {K : Act → World → Prop} {Q : Exit → Act → World → Prop} {E : Prop} {α : Type} {enc : α → List Value} {k e t B : Nat} {Qb : Nat → Prop} {xs ys : List α} {v u : Value}
    (hE : Elem t e k) (hk : ∀ x, (enc x).length = k) (h1 : ∀ y ∈ ys, ∀ c ∈ enc y, c.oneCell' = true) (hgd : o.guard = none) (s x : Operand) (ho : o.op = .call { callee := .builtin .append, args := #[s, x], argTypes := #[t, t] })
    (hs : a.eval s = v) (hx : a.eval x = u) (hown : Own enc k e B w v xs) (hu : SlAt Qb enc k w u ys) (hb : (xs.length + ys.length) * bsz k ≤ 140737488355328) (hB : B ≤ w.heap.size)
    (h : ∀ v' w', Own enc k e B w' v' (xs ++ ys) → Below B w w' → w.grownBy w' v.ownBlock → K (a.put o.dst v') w') : if Region.wanted o (yielded ops a.tmps) = true then Oper.wp Try.prog o a w K Q else E := by
  have hw : Region.wanted o (yielded ops a.tmps) = true := by simp [Region.wanted, hgd]
  rw [if_pos hw]
  obtain ⟨ht, hkp, i0, z, hi, hz0, hz1, hz2, hzs⟩ := hE
  obtain ⟨p, cap, rfl, ⟨hcap, hnone⟩, hmax, hy⟩ := hu
  cases p with
  | none =>
    have hn : ys = [] := by
      cases ys with
      | nil => rfl
      | cons y r => obtain ⟨b, o, hp, _⟩ := hy (by simp); cases hp
    subst hn
    have hc := hnone rfl
    subst hc
    have hrun := run_append_owned_none (P := Try.prog) (w := w) B t o.type e i0 k ht hi v xs.length _ hown
    have hx' : a.eval x = .slice none 0 0 := by rw [hx]; rfl
    unfold Oper.wp
    simp [execOp, ho, resolve, invoke, builtin, hs, hx', hrun, Result.andThen]
    exact h v w (by rw [List.append_nil]; exact hown) (Below.refl _ _) ⟨rfl, rfl, rfl, Nat.le_refl _, fun _ _ _ => rfl⟩
  | some ad =>
    refine wp_append_own w s x t ho B e i0 z k i0.bytes ht hi hz0 hz1 rfl hzs hkp v xs.length _ hs hown ad ys.length cap (ys.flatMap enc) hx (flat_length hk ys) ?_ ?_ ?_ (Nat.le_trans (Nat.mul_le_mul_left _ hz2) hb) hB ?_
    · intro j c hj
      have hne : ys ≠ [] := by intro e; subst e; simp at hj
      obtain ⟨b, o, hp, _, hcell⟩ := hy hne
      have hp' : ad = ⟨b, o, none⟩ := Option.some.inj hp
      rw [hp', Addr.add_lit]
      exact flat_cells hk ys o hcell j c hj
    · intro c hc
      obtain ⟨y, hy', hcy⟩ := List.mem_flatMap.1 hc
      exact h1 y hy' c hcy
    · unfold maxLen; unfold bsz at hb; split at hb <;> omega
    · intro v' w' h2 h3 _
      refine h v' w' ?_ ((Below.refl B w).grown h3 hB (fun j e => (hown.lt j e))) h3
      show w'.ownsRow B e k v' (xs ++ ys).length ((xs ++ ys).flatMap enc)
      rw [List.length_append, List.flatMap_append]; exact h2
theorem step_callC {ops : Array Oper} {o : Oper} {a : Act} {w : World} {K : Act → World → Prop} {Q : Exit → Act → World → Prop} {E : Prop} {f : FuncId} {v : Value} (hgd : o.guard = none) (x : Operand) (t : TypeId)
    (ho : o.op = .call { callee := .value (.func f), args := #[x], argTypes := #[t] }) (hx : a.eval x = v) (hen : ∀ args w, (callFunc f args).run Try.prog w = .ok (.enter f args) w)
    (hc : Calls Try.prog f #[v] w fun e w' => ∃ u, e = .returned u ∧ K (a.put o.dst u) w') : if Region.wanted o (yielded ops a.tmps) = true then Oper.wp Try.prog o a w K Q else E := by
  have hw : Region.wanted o (yielded ops a.tmps) = true := by simp [Region.wanted, hgd]
  rw [if_pos hw]
  unfold Oper.wp
  have hr : (execOp a.eval o).run Try.prog w = .ok (.enter f #[v]) w := by
    simp [execOp, ho, resolve, invoke, hen, go_sem]
    rw [← hx]
    cases x <;> simp [Act.eval]
  rw [hr, Oper.upon_enter]
  refine hc.mono ?_
  rintro e w' ⟨u, rfl, hk⟩
  exact hk
abbrev B2 (bx : Nat) (a b : Value) (w : World) : Prop := w.cell? ⟨bx, 1, none⟩ = some a ∧ w.cell? ⟨bx, 2, none⟩ = some b
theorem b2D {w : World} {bx : Nat} {a b : Value} (h : B2 bx a b w) : B2 bx a b w.drew := h
theorem b2A {w : World} {bx : Nat} {a b : Value} (h : B2 bx a b w) (o : Obj) : B2 bx a b (w.alloc o) := ⟨Lib.cell?_alloc_some _ h.1, Lib.cell?_alloc_some _ h.2⟩
theorem b2On {w w' : World} {bx : Nat} {a b : Value} (h : B2 bx a b w) (hb : Below w.heap.size w w') : B2 bx a b w' := ⟨cell_on h.1 hb, cell_on h.2 hb⟩
theorem own_c1 {B : Nat} {w : World} {c : Cl} (hB : B ≤ w.heap.size) : Own Cl.cells 2 32 B (w.alloc (.cells #[.string c.nm, .int .i64 c.kd] 32)) (.slice (some ⟨w.heap.size, 0, none⟩) 1 1) [c] :=
  ⟨rfl, .inr ⟨w.heap.size, 1, _, rfl, hB, alloc_block w _, Nat.le_refl _, by decide, rfl, rfl⟩⟩
theorem small2 {n : Nat} (h : n ≤ 4000000) : n * bsz 2 ≤ 140737488355328 := by unfold bsz; simp; omega
theorem lowD (w : World) (o : Obj) : Below w.heap.size w (w.drew.alloc o) := (Below.refl w.heap.size w).drew.alloc (Nat.le_refl _) o
set_option maxRecDepth 100000 in
set_option maxHeartbeats 1000000 in
theorem rscols_any {v : Value} {s : Sc} {w : World} (hv : ScAt w v s) (hl : s.ks.length + s.vs.length ≤ 3000000) :
    Calls Try.prog 36 #[v] w fun e w' => ∃ u, e = .returned u ∧ ColsAt w' u (colsS s) ∧ Below w.heap.size w w' := by
  obtain ⟨pk, nk, ck, pv, nv, cv, rfl, h1, h2⟩ := sc_form hv
  have HK := hid h1
  have HV := hid h2
  have HL := hid hl
  clear h1 h2 hl hv
  have HB := hid ((Below.refl w.heap.size w).alloc (Nat.le_refl _) (.cells #[.string s.nm, .slice pk nk ck, .slice pv nv cv] 56))
  have KB := hid (alloc_block w (.cells #[.string s.nm, .slice pk nk ck, .slice pv nv cv] 56))
  go_enter Try.func36, Try.ntmps36
  go_wp2_with fail
  have hO : Own Cl.cells 2 32 (w.heap.size + 1) ((w.alloc (.cells #[.string s.nm, .slice pk nk ck, .slice pv nv cv] 56)).alloc (.cells #[.string ⟨#[116, 105, 109, 101]⟩, .int .i64 1] 32)) (.slice (some ⟨w.heap.size + 1, 0, none⟩) 1 1) [cTime] := by
    have h := own_c1 (c := cTime) (Nat.le_refl (w.alloc (.cells #[.string s.nm, .slice pk nk ck, .slice pv nv cv] 56)).heap.size)
    rw [World.size_alloc] at h
    exact h
  have HB2 := hid (HB.out.alloc HB.out.size (.cells #[.string ⟨#[116, 105, 109, 101]⟩, .int .i64 1] 32))
  have KB2 := hid (blk_upS KB.out (.cells #[.string ⟨#[116, 105, 109, 101]⟩, .int .i64 1] 32))
  have HS2 : Hid (w.heap.size + 1 ≤ ((w.alloc (.cells #[.string s.nm, .slice pk nk ck, .slice pv nv cv] 56)).alloc (.cells #[.string ⟨#[116, 105, 109, 101]⟩, .int .i64 1] 32)).heap.size) := by show _ ≤ _; rw [World.size_alloc, World.size_alloc]; omega
  have HO := hid hO
  clear hO
  generalize ((w.alloc (.cells #[.string s.nm, .slice pk nk ck, .slice pv nv cv] 56)).alloc (.cells #[.string ⟨#[116, 105, 109, 101]⟩, .int .i64 1] 32)) = W at *
  have hS0 : B2 w.heap.size (.slice pk nk ck) (.slice pv nv cv) W := ⟨block_cell KB2.out 1, block_cell KB2.out 2⟩
  have HOD : Hid (Own Cl.cells 2 32 (w.heap.size + 1) W.drew (.slice (some ⟨w.heap.size + 1, 0, none⟩) 1 1) [cTime]) := HO.out
  have HBD : Hid (Below w.heap.size w W.drew) := HB2.out.drew
  have HKB : Hid (∀ w3, Below (w.heap.size + 1) W.drew w3 → B2 w.heap.size (.slice pk nk ck) (.slice pv nv cv) w3 ∧ Below w.heap.size w w3) := fun w3 h => by
    have h0 : w3.heap[w.heap.size]? = some (.cells #[.string s.nm, .slice pk nk ck, .slice pv nv cv] 56) := (h.block w.heap.size (Nat.lt_succ_self _)).trans KB2.out
    exact ⟨⟨block_cell h0 1, block_cell h0 2⟩, HBD.out.trans (h.mono (Nat.le_succ _))⟩
  go_region_held3 (B2 w.heap.size (.slice pk nk ck) (.slice pv nv cv)) (((repeat (first | (with_reducible refine b2D ?_) | (with_reducible refine b2A ?_ _))); (with_reducible assumption)))
    (first
    | (have FIRST := HO; refine step_appC elem45 cl_len (fun x _ => cl_cells x) rfl (.tmp 6) (.tmp 8) rfl (by simp [Act.eval]; try rfl) (by simp [Act.eval]; try rfl) HOD.out (HK.out.on HBD.out) (small2 (by have := HL.out; simp; omega)) HS2.out ?_; intro v3 w3 hown3 hb3 _; have HO3 := hid hown3; have S3 := hid hb3; have hS3 := (HKB.out w3 hb3).1; obtain ⟨p3, c3, rfl, -⟩ := (Own.sl hown3 cl_len (small2 (by have := HL.out; simp; omega))); clear hown3 hb3 FIRST HO hS0)
    | (have FIRST := HO3; refine step_appC elem45 cl_len (fun x _ => cl_cells x) rfl (.tmp 9) (.tmp 11) rfl (by simp [Act.eval]; try rfl) (by simp [Act.eval]; try rfl) HO3.out (HV.out.on (HKB.out _ S3.out).2) (small2 (by have := HL.out; simp; omega)) (Nat.le_trans HS2.out S3.out.size) ?_; intro v4 w4 hown4 hb4 _; have HO4 := hid hown4; have S4 := hid (S3.out.trans hb4); have hS4 := (HKB.out w4 S4.out).1; clear hown4 hb4 FIRST HO3 hS3))
  go_wp2_with fail
  go_ret
  exact ⟨_, rfl, (Own.sl HO4.out cl_len (small2 (by have := HL.out; simp; omega))).imp (fun _ _ => trivial), (HKB.out _ S4.out).2⟩
end Go.Proofs.Ytjfholofgohcjaa
namespace Go.Proofs.Ytjfholofgohcjaa
open Go.RowKit Go.Sort Go.Shelf

theorem growC_any {n : Nat} {w : World} (hn : n ≤ 4000000) :
    Calls Try.prog 119 #[.slice none 0 0, .int .i64 (n : Int)] w fun e w' => ∃ v', e = .returned v' ∧ Own Cl.cells 2 32 w.heap.size w' v' [] ∧ Below w.heap.size w w' := by
  by_cases h0 : n = 0
  · subst h0
    refine Calls.mono (show Calls Try.prog 119 _ _ _ from Any8.slices_Grow_room Try.growC none 0 0 0 w (Nat.le_refl _) (by omega) (by omega) (Nat.le_refl _)) ?_
    rintro e w' ⟨he, rfl⟩
    exact ⟨_, he, Own.nil _ _ _ _ _, Below.refl _ _⟩
  · obtain ⟨i, hi, hz0, hz1, hz2⟩ := info_parts info45
    refine Calls.mono (show Calls Try.prog 119 _ _ _ from Any8.slices_Grow_grow Try.growC i _ hi hz0 (by rw [hz1]; omega) none 0 0 n [] w (Nat.le_refl _) (by omega) (by rw [hz2]; omega) (by omega) (by simp) (fun _ => rfl) (fun a h => by cases h)) ?_
    rintro e w' ⟨he, rfl⟩
    refine ⟨_, he, ?_, (Below.refl _ _).drew.alloc (Nat.le_refl _) _⟩
    have hge := grownCap_ge w (0 + n) 0 32
    have hle := grownCap_le_maxLen w (0 + n) 0 32 (by unfold maxLen; omega)
    show World.ownsRow _ _ _ _ _ _ _
    refine ⟨by simp, .inr ⟨w.heap.size, _, _, rfl, Nat.le_refl _, heap_alloc_new w.drew _, Nat.zero_le _, hle, ?_, by simp⟩⟩
    have hz : (Value.agg #[.string ⟨#[]⟩, .int .i64 0]).cells.size = 2 := rfl
    simp only [Array.size_append, size_zeroCells, hz, List.size_toArray, List.length_nil]
    show _ = grownCap w (0 + n) 0 32 * 2
    have e : grownCap w (0 + n) 0 (Try.growC_ren.t 25) = grownCap w (0 + n) 0 32 := rfl
    rw [e]
    omega
set_option maxRecDepth 100000 in
set_option maxHeartbeats 2000000 in
theorem concatC_any {u v t : Value} {a b c : List Cl} {B : Nat} {w : World} (hblk : w.heap[B]? = some (.cells #[u, v, t] 22 (0, 0))) (hu : ColsAt w u a) (hv : ColsAt w v b) (ht : ColsAt w t c) (hl : a.length + b.length + c.length ≤ 4000000) :
    Calls Try.prog 80 #[.slice (some ⟨B, 0, none⟩) 3 3] w fun e w' => ∃ v', e = .returned v' ∧ ColsAt w' v' (a ++ b ++ c) ∧ Below w.heap.size w w' := by
  have HU := hid hu
  have HV := hid hv
  have HT := hid ht
  obtain ⟨pu, cu, rfl, -⟩ := hu
  obtain ⟨pv, cv, rfl, -⟩ := hv
  obtain ⟨pt, ct, rfl, -⟩ := ht
  have KB := hid hblk
  have kb := block_cell hblk
  clear hblk
  have HL := hid hl
  generalize hn : a.length = n at *
  generalize hm : b.length = m at *
  generalize hk : c.length = k at *
  have HN := hid hn
  have HM := hid hm
  have HK := hid hk
  clear hn hm hk
  go_enter Try.func80, Try.ntmps80
  go_wp2
  refine wp_loop_rounds 4 ?_
  rw [rounds_succ]
  go_wp2
  rw [rounds_succ]
  go_wp2
  rw [rounds_succ]
  go_wp2
  rw [rounds_succ]
  have hG := hid (fun W : World => growC_any (n := n + m + k) (w := W) (by omega))
  go_wp2_with (first | (go_at_call 119; refine (hG.out _).mono ?_; rintro e w1 ⟨v1, rfl, hown, hb1⟩; have HO1 := hid hown; have HB1 := hid hb1; have K1 := hid (block_on KB.out hb1); have k1 := block_cell K1.out; clear hown hb1))
  clear hG
  refine wp_loop_rounds 4 ?_
  rw [rounds_succ]
  go_wp2_with (at_builtin; refine app_any elem45 cl_len (fun x _ => cl_cells x) rfl _ _ rfl rfl HO1.out rfl (SlAt.on HU.out HB1.out) (small2 (by simp; rw [HN.out]; omega)) HB1.out.size ?_; intro v2 w2 hown2 hb2; have HO2 := hid hown2; have HB2 := hid (HB1.out.trans hb2); have K2 := hid ((hb2.block B (lt_of_block KB.out)).trans K1.out); have k2 := block_cell K2.out; clear hown2 hb2)
  rw [rounds_succ]
  go_wp2_with (at_builtin; refine app_any elem45 cl_len (fun x _ => cl_cells x) rfl _ _ rfl rfl HO2.out rfl (SlAt.on HV.out HB2.out) (small2 (by simp; rw [HN.out, HM.out]; omega)) HB2.out.size ?_; intro v3 w3 hown3 hb3; have HO3 := hid hown3; have HB3 := hid (HB2.out.trans hb3); have K3 := hid ((hb3.block B (lt_of_block KB.out)).trans K2.out); have k3 := block_cell K3.out; clear hown3 hb3)
  rw [rounds_succ]
  go_wp2_with (at_builtin; refine app_any elem45 cl_len (fun x _ => cl_cells x) rfl _ _ rfl rfl HO3.out rfl (SlAt.on HT.out HB3.out) (small2 (by simp; rw [HN.out, HM.out, HK.out]; omega)) HB3.out.size ?_; intro v4 w4 hown4 hb4; have HO4 := hid hown4; have HB4 := hid (HB3.out.trans hb4); clear hown4 hb4)
  rw [rounds_succ]
  go_wp2
  go_ret
  rw [List.nil_append] at HO4
  exact ⟨_, rfl, (Own.sl HO4.out cl_len (small2 (by simp; rw [HN.out, HM.out, HK.out]; omega))).imp (fun _ _ => trivial), HB4.out⟩
theorem time_sl {w : World} {B : Nat} (h : w.heap[B]? = some (.cells #[.string ⟨#[116, 105, 109, 101]⟩, .int .i64 1] 32)) : ColsAt w (.slice (some ⟨B, 0, none⟩) 1 1) [cTime] :=
  (lit_sl (xs := [cTime]) h cl_len rfl rfl (Nat.le_refl _) (by simp)).imp fun _ _ => trivial
set_option maxRecDepth 100000 in
set_option maxHeartbeats 1000000 in
theorem scols_any {v : Value} {s : Sc} {w : World} (hv : ScAt w v s) (hl : s.ks.length + s.vs.length ≤ 3000000) :
    Calls Try.prog 35 #[v] w fun e w' => ∃ u, e = .returned u ∧ ColsAt w' u (colsS s) ∧ Below w.heap.size w w' := by
  obtain ⟨pk, nk, ck, pv, nv, cv, rfl, h1, h2⟩ := sc_form hv
  have HK := hid h1
  have HV := hid h2
  have HL := hid hl
  clear h1 h2 hl hv
  have HB := hid ((Below.refl w.heap.size w).alloc (Nat.le_refl _) (.cells #[.string s.nm, .slice pk nk ck, .slice pv nv cv] 56))
  have KB := hid (alloc_block w (.cells #[.string s.nm, .slice pk nk ck, .slice pv nv cv] 56))
  have HB2 := hid (HB.out.alloc HB.out.size (.cells #[.string ⟨#[116, 105, 109, 101]⟩, .int .i64 1] 32))
  have hK2 := alloc_block (w.alloc (.cells #[.string s.nm, .slice pk nk ck, .slice pv nv cv] 56)) (.cells #[.string ⟨#[116, 105, 109, 101]⟩, .int .i64 1] 32)
  rw [World.size_alloc] at hK2
  have HB3 := hid (HB2.out.alloc HB2.out.size (.cells #[.slice (some ⟨w.heap.size + 1, 0, none⟩) 1 1, .slice pk nk ck, .slice pv nv cv] 22))
  have hK3 := alloc_block ((w.alloc (.cells #[.string s.nm, .slice pk nk ck, .slice pv nv cv] 56)).alloc (.cells #[.string ⟨#[116, 105, 109, 101]⟩, .int .i64 1] 32)) (.cells #[.slice (some ⟨w.heap.size + 1, 0, none⟩) 1 1, .slice pk nk ck, .slice pv nv cv] 22)
  rw [World.size_alloc, World.size_alloc] at hK3
  have K2 := hid (blk_upS hK2 (.cells #[.slice (some ⟨w.heap.size + 1, 0, none⟩) 1 1, .slice pk nk ck, .slice pv nv cv] 22))
  have K3 := hid hK3
  clear hK2 hK3
  go_enter Try.func35, Try.ntmps35
  go_wp2_with (go_at_call 80; refine (concatC_any K3.out (time_sl K2.out) (HK.out.on HB3.out) (HV.out.on HB3.out) (by have := HL.out; simp; omega)).mono ?_; rintro e w1 ⟨v1, rfl, hc1, hb1⟩)
  go_ret
  exact ⟨_, rfl, by rw [List.append_assoc] at hc1; exact hc1, below_on HB3.out hb1⟩
end Go.Proofs.Ytjfholofgohcjaa
namespace Go.Proofs.Ytjfholofgohcjaa
open Go.RowKit Go.Sort Go.Shelf

abbrev B3 (bx : Nat) (n a b : Value) (w : World) : Prop := w.cell? ⟨bx, 0, none⟩ = some n ∧ w.cell? ⟨bx, 1, none⟩ = some a ∧ w.cell? ⟨bx, 2, none⟩ = some b
theorem b3D {w : World} {bx : Nat} {n a b : Value} (h : B3 bx n a b w) : B3 bx n a b w.drew := h
theorem b3S {w : World} {bx z i : Nat} {n a b u : Value} (h : B3 bx n a b w) (hne : bx ≠ z) : B3 bx n a b (w.setCell ⟨z, i, none⟩ u) := by
  obtain ⟨h1, h2, h3⟩ := h
  have e := Below.heap_setCell w ⟨z, i, none⟩ u bx hne
  refine ⟨?_, ?_, ?_⟩ <;> (unfold World.cell? at *; rw [e]; assumption)
theorem slSet {α : Type} {Q : Nat → Prop} {enc : α → List Value} {k : Nat} {w : World} {v u : Value} {xs : List α} {z i : Nat} (h : SlAt Q enc k w v xs) (hq : ∀ b, Q b → b ≠ z) : SlAt Q enc k (w.setCell ⟨z, i, none⟩ u) v xs := by
  obtain ⟨p, cap, hv, hc, hm, hx⟩ := h
  refine ⟨p, cap, hv, hc, hm, fun hne => ?_⟩
  obtain ⟨b, o, hp, hQ, hj⟩ := hx hne
  refine ⟨b, o, hp, hQ, fun j x hjx l u' hl => ?_⟩
  have := hj j x hjx l u' hl
  unfold World.cell? at this ⊢
  rw [Below.heap_setCell w ⟨z, i, none⟩ u b (hq b hQ.1)]
  exact this
theorem zFound {W : World} {w : World} {l : List Sc} {nm : ByteArray} (hb : Below w.heap.size w W) (hn : atS l nm < 0) : Found w l nm (.returned (.tuple #[zSc, .bool false])) W :=
  ⟨⟨_, _, rfl, .inl ⟨hn, rfl, rfl⟩⟩, hb⟩
set_option maxRecDepth 100000 in
set_option maxHeartbeats 2000000 in
theorem sfind_any {v : Value} {l : List Sc} {nm : ByteArray} {w : World} (hv : SchsAt w v l) :
    Calls Try.prog 31 #[v, .string nm] w (Found w l nm) := by
  have HV := hid hv
  obtain ⟨hs, ⟨p, cap, rfl, hcap, hmax, hx⟩, hh⟩ := hv
  unfold maxLen at hmax
  have HX := hid hx
  have HH := hid hh
  have hl := hh.1
  clear hx hh
  generalize hn : hs.length = n at *
  have HN := hid hn
  have HL := hid hl
  clear hn
  have HB0 := hid ((Below.refl w.heap.size w).alloc (Nat.le_refl _) (.cells #[.string ⟨#[]⟩, .slice none 0 0, .slice none 0 0] 56))
  have KB0 := hid (alloc_block w (.cells #[.string ⟨#[]⟩, .slice none 0 0, .slice none 0 0] 56))
  by_cases hneg : atS l nm < 0
  · have HNG := hid hneg
    generalize hz : atS l nm = z at *
    have HZ := hid hz
    clear hz hl
    go_enter Try.func31, Try.ntmps31
    go_wp2_with (go_at_call 78; refine (place_is (HV.out.on HB0.out) HZ.out).mono ?_; rintro e w1 ⟨rfl, hb1⟩; have HB1 := hid (below_on HB0.out hb1); have KB1 := hid (block_on KB0.out hb1); have kb := block_cell KB1.out; have fz := frozen_no KB1.out; clear hb1)
    have KF := Joins.block_setCell (i := 2) (Joins.block_setCell (i := 1) (Joins.block_setCell (i := 0) KB1.out (.string ⟨#[]⟩)) (.slice none 0 0)) (.slice none 0 0)
    have HBF : Below w.heap.size w (((w1.setCell ⟨w.heap.size, 0, none⟩ (.string ⟨#[]⟩)).setCell ⟨w.heap.size, 1, none⟩ (.slice none 0 0)).setCell ⟨w.heap.size, 2, none⟩ (.slice none 0 0)) := ((HB1.out.setCell (Nat.le_refl _) _).setCell (Nat.le_refl _) _).setCell (Nat.le_refl _) _
    generalize (((w1.setCell ⟨w.heap.size, 0, none⟩ (.string ⟨#[]⟩)).setCell ⟨w.heap.size, 1, none⟩ (.slice none 0 0)).setCell ⟨w.heap.size, 2, none⟩ (.slice none 0 0)) = WF at KF HBF ⊢
    have kcf := block_cell KF
    clear KF kb fz
    exact bodyPost_ret (v := .tuple #[zSc, .bool false]) (by simp [results, Try.results31, go_sem, kcf, zSc]) rfl (zFound HBF (by rw [HZ.out]; exact HNG.out))
  · obtain ⟨j, hj, hat⟩ := at_nat hneg
    have hjn : j < n := by omega
    have hjh : j < hs.length := by rw [HN.out]; exact hjn
    obtain ⟨b, o, rfl, -, hjx⟩ := HX.out (by intro e; have := HN.out; rw [e] at this; simp at this; omega)
    have HJ := hid (hjx j _ (get!_some hjh))
    have hsi := HH.out.2 j _ _ (get!_some hjh) (get!_some hj)
    generalize hs[j]! = hd at HJ hsi
    obtain ⟨pk, nk, ck, pv, nv, cv, rfl⟩ := sh_form hsi
    have HSK := hid hsi.ks
    have HSV := hid hsi.vs
    dsimp only at HSK HSV
    have hlb := block_lt_of_cell (HJ.out 0 _ rfl)
    dsimp only at hlb
    generalize hs0 : l[j]! = s at *
    have HS0 := hid hs0
    have HAT := hid hat
    have HJL := hid hj
    clear hsi hjx HX HH hl hneg hat hs0 hj
    have hj0 : ¬ (j : Int) < 0 := by omega
    have eg : ∀ args w, (callFunc 79 args).run Try.prog w = .ok (.enter 79 args) w := enters_of Try.func79 (by kernel_rfl) rfl
    have HEG := hid eg
    clear eg
    go_enter Try.func31, Try.ntmps31
    go_wp2_with (go_at_call 78; refine (place_is (HV.out.on HB0.out) HAT.out).mono ?_; rintro e w1 ⟨rfl, hb1⟩; have HB1 := hid (below_on HB0.out hb1); have KB1 := hid (block_on KB0.out hb1); obtain ⟨c0, c1, c2⟩ := sh_cells (HJ.out.on HB1.out); dsimp only at c0 c1 c2; clear hb1)
    have HLW : Hid (w.heap.size < w1.heap.size) := lt_of_block KB1.out
    have HB2 := hid (HB1.out.alloc HB1.out.size (.cells #[.string s.nm, .slice pk nk ck, .slice pv nv cv] 56))
    have KB2 := hid (blk_upS KB1.out (.cells #[.string s.nm, .slice pk nk ck, .slice pv nv cv] 56))
    have KC2 := hid (alloc_block w1 (.cells #[.string s.nm, .slice pk nk ck, .slice pv nv cv] 56))
    clear c0 c1 c2
    have hneB : w1.heap.size ≠ w.heap.size := by have := HLW.out; omega
    generalize w1.heap.size = BX at *
    generalize (w1.alloc (.cells #[.string s.nm, .slice pk nk ck, .slice pv nv cv] 56)) = W at *
    have hS0 : B3 BX (.string s.nm) (.slice pk nk ck) (.slice pv nv cv) W := ⟨block_cell KC2.out 0, block_cell KC2.out 1, block_cell KC2.out 2⟩
    have HKB : Hid (∀ w3, Below W.heap.size W.drew w3 → B3 BX (.string s.nm) (.slice pk nk ck) (.slice pv nv cv) w3 ∧ w3.heap[w.heap.size]? = some (.cells #[.string ⟨#[]⟩, .slice none 0 0, .slice none 0 0] 56) ∧ Below w.heap.size w w3) := fun w3 h => by
      have h1 : w3.heap[BX]? = some (.cells #[.string s.nm, .slice pk nk ck, .slice pv nv cv] 56) := (h.block BX (lt_of_block KC2.out)).trans KC2.out
      have h2 : w3.heap[w.heap.size]? = some (.cells #[.string ⟨#[]⟩, .slice none 0 0, .slice none 0 0] 56) := (h.block w.heap.size (lt_of_block KB2.out)).trans KB2.out
      exact ⟨⟨block_cell h1 0, block_cell h1 1, block_cell h1 2⟩, h2, HB2.out.drew.trans (h.mono HB2.out.size)⟩
    have M1 : Hid True := trivial
    go_region_held3 (B3 BX (.string s.nm) (.slice pk nk ck) (.slice pv nv cv)) (((repeat (first | (with_reducible refine b3D ?_) | (with_reducible refine b3S ?_ hneB))); (with_reducible assumption)))
      (first
      | (have FIRST := M1; refine step_callC (v := .slice pk nk ck) rfl (.tmp 21) 22 rfl (by simp [Act.eval]) HEG.out ?_; refine (cloneC_any (HSK.out.on HB2.out.drew)).mono ?_; rintro e w3 ⟨v3, rfl, hc3, hb3⟩; refine ⟨_, rfl, ?_⟩; have HC3 := hid hc3; obtain ⟨p3, q3, rfl, -⟩ := hc3; have S3 : Hid (Below W.heap.size W.drew w3) := hb3; have hS3 := (HKB.out w3 S3.out).1; have M2 : Hid True := trivial; clear hb3 FIRST M1 hS0)
      | (have FIRST := M2; refine step_callC (v := .slice pv nv cv) rfl (.tmp 24) 22 rfl (by simp [Act.eval]) HEG.out ?_; refine (cloneC_any (HSV.out.on (HKB.out _ S3.out).2.2)).mono ?_; rintro e w4 ⟨v4, rfl, hc4, hb4⟩; refine ⟨_, rfl, ?_⟩; have HC4 := hid hc4; obtain ⟨p4, q4, rfl, -⟩ := hc4; have S4 : Hid (Below W.heap.size W.drew w4) := S3.out.trans (hb4.mono S3.out.size); have HC5 := hid (HC3.out.on hb4); have hS4 := (HKB.out w4 S4.out).1; have kb4 := block_cell (HKB.out w4 S4.out).2.1; have fz4 := frozen_no (HKB.out w4 S4.out).2.1; clear hb4 FIRST M2 hS3))
    go_wp2_with fail
    obtain ⟨-, K4, HB4⟩ := HKB.out w4 S4.out
    have KF := Joins.block_setCell (i := 2) (Joins.block_setCell (i := 1) (Joins.block_setCell (i := 0) K4 (.string s.nm)) (.slice p3 s.ks.length q3)) (.slice p4 s.vs.length q4)
    have HBF : Below w.heap.size w (((w4.setCell ⟨w.heap.size, 0, none⟩ (.string s.nm)).setCell ⟨w.heap.size, 1, none⟩ (.slice p3 s.ks.length q3)).setCell ⟨w.heap.size, 2, none⟩ (.slice p4 s.vs.length q4)) := ((HB4.setCell (Nat.le_refl _) _).setCell (Nat.le_refl _) _).setCell (Nat.le_refl _) _
    have hlt4 : w.heap.size < W.heap.size := lt_of_block KB2.out
    have hw3 : W.heap.size ≤ w3.heap.size := S3.out.size
    have C5 : ColsAt (((w4.setCell ⟨w.heap.size, 0, none⟩ (.string s.nm)).setCell ⟨w.heap.size, 1, none⟩ (.slice p3 s.ks.length q3)).setCell ⟨w.heap.size, 2, none⟩ (.slice p4 s.vs.length q4)) (.slice p3 s.ks.length q3) s.ks :=
      (slSet (slSet (slSet HC5.out (fun b hb => by have hb' : W.heap.size ≤ b := hb; omega)) (fun b hb => by have hb' : W.heap.size ≤ b := hb; omega)) (fun b hb => by have hb' : W.heap.size ≤ b := hb; omega)).imp fun _ _ => trivial
    have C4 : ColsAt (((w4.setCell ⟨w.heap.size, 0, none⟩ (.string s.nm)).setCell ⟨w.heap.size, 1, none⟩ (.slice p3 s.ks.length q3)).setCell ⟨w.heap.size, 2, none⟩ (.slice p4 s.vs.length q4)) (.slice p4 s.vs.length q4) s.vs :=
      (slSet (slSet (slSet HC4.out (fun b hb => by have hb' : w3.heap.size ≤ b := hb; omega)) (fun b hb => by have hb' : w3.heap.size ≤ b := hb; omega)) (fun b hb => by have hb' : w3.heap.size ≤ b := hb; omega)).imp fun _ _ => trivial
    generalize (((w4.setCell ⟨w.heap.size, 0, none⟩ (.string s.nm)).setCell ⟨w.heap.size, 1, none⟩ (.slice p3 s.ks.length q3)).setCell ⟨w.heap.size, 2, none⟩ (.slice p4 s.vs.length q4)) = WF at KF HBF C4 C5 ⊢
    have kcf := block_cell KF
    clear KF kb4 fz4
    exact bodyPost_ret (v := .tuple #[.agg #[.string s.nm, .slice p3 s.ks.length q3, .slice p4 s.vs.length q4], .bool true]) (by simp [results, Try.results31, go_sem, kcf]) rfl ⟨⟨_, _, rfl, .inr ⟨j, HJL.out, HAT.out, rfl, by rw [HS0.out]; exact ⟨_, _, rfl, C5, C4⟩⟩⟩, HBF⟩
theorem sfind_none {v : Value} {l : List Sc} {nm : ByteArray} {w : World} (hv : SchsAt w v l) (hn : atS l nm < 0) : Calls Try.prog 31 #[v, .string nm] w fun e w' => e = .returned (.tuple #[.agg #[.string ⟨#[]⟩, .slice none 0 0, .slice none 0 0], .bool false]) ∧ Below w.heap.size w w' :=
  (sfind_any hv).mono fun _ _ h => h.none hn
theorem sfind_some {v : Value} {l : List Sc} {nm : ByteArray} {w : World} {j : Nat} (hv : SchsAt w v l) (hn : atS l nm = (j : Int)) : Calls Try.prog 31 #[v, .string nm] w (FoundAt w l[j]!) :=
  (sfind_any hv).mono fun _ _ h => by
    obtain ⟨⟨u, rfl, hs⟩, hb⟩ := h.some hn
    obtain ⟨pk, nk, ck, pv, nv, cv, rfl, h1, h2⟩ := sc_form hs
    exact ⟨_, _, _, _, _, _, rfl, h1, h2, hb⟩
end Go.Proofs.Ytjfholofgohcjaa
