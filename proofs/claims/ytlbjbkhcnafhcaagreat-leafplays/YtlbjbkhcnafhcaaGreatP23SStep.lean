/-
  append and a call, each as one step of a region that draws its order; columns put behind columns.
  What schema.Cols and schema.Find return, for every schema.
  What schema.Find returns, for all schemas and every name.
  What copyOf of package leaf returns, for all schemas.
  What New of package leaf returns, for all schemas; how many points a leaf has.
-/
import Derived.Test.YtlbjbkhcnafhcaaGreatP22RCheck
import Derived.Test.YtlbjbkhcnafhcaaGreatP09Txt
import Derived.Test.YtlbjbkhcnafhcaaGreatP17RnGet
import Derived.Test.YtlbjbkhcnafhcaaGreatP21STwice
import Derived.Deep.RegionLaw
namespace Go.Proofs.YtlbjbkhcnafhcaaGreat
open Go.RowKit Go.Sort Go.Shelf

theorem step_appC {ops : Array Oper} {o : Oper} {a : Act} {w : World} {K : Act → World → Prop} {Q : Exit → Act → World → Prop} {E : Prop} {α : Type} {enc : α → List Value} {k e t B : Nat} {Qb : Nat → Prop} {xs ys : List α} {v u : Value}
    (hE : Elem t e k) (hk : ∀ x, (enc x).length = k) (h1 : ∀ y ∈ ys, ∀ c ∈ enc y, c.oneCell' = true) (hgd : o.guard = none) (s x : Operand) (ho : o.op = .call { callee := .builtin .append, args := #[s, x], argTypes := #[t, t] })
    (hs : a.eval s = v) (hx : a.eval x = u) (hown : Own enc k e B w v xs) (hu : SlAt Qb enc k w u ys) (hb : (xs.length + ys.length) * bsz k ≤ 140737488355328) (hB : B ≤ w.heap.size)
    (h : ∀ v' w', Own enc k e B w' v' (xs ++ ys) → Below B w w' → w.grownBy w' v.ownBlock → K (a.put o.dst v') w') : if Region.wanted o (yielded ops a.tmps) = true then Oper.wp Tryz.prog o a w K Q else E := by
  have hw : Region.wanted o (yielded ops a.tmps) = true := by simp [Region.wanted, hgd]
  rw [if_pos hw]
  obtain ⟨ht, hkp, i0, z, hi, hz0, hz1, hz2, hzs⟩ := hE
  obtain ⟨p, cap, rfl, ⟨hcap, hnone⟩, hmax, hy⟩ := hu
  cases p with
  | none =>
    have hn : ys = [] := by
      cases ys with
      | nil => rfl
      | cons y r => obtain ⟨b, o, hp, _⟩ := hy (by simp); cases hp
    subst hn
    have hc := hnone rfl
    subst hc
    have hrun := run_append_owned_none (P := Tryz.prog) (w := w) B t o.type e i0 k ht hi v xs.length _ hown
    have hx' : a.eval x = .slice none 0 0 := by rw [hx]; rfl
    unfold Oper.wp
    simp [execOp, ho, resolve, invoke, builtin, hs, hx', hrun, Result.andThen]
    exact h v w (by rw [List.append_nil]; exact hown) (Below.refl _ _) ⟨rfl, rfl, rfl, Nat.le_refl _, fun _ _ _ => rfl⟩
  | some ad =>
    refine wp_append_own w s x t ho B e i0 z k i0.bytes ht hi hz0 hz1 rfl hzs hkp v xs.length _ hs hown ad ys.length cap (ys.flatMap enc) hx (flat_length hk ys) ?_ ?_ ?_ (Nat.le_trans (Nat.mul_le_mul_left _ hz2) hb) hB ?_
    · intro j c hj
      have hne : ys ≠ [] := by intro e; subst e; simp at hj
      obtain ⟨b, o, hp, _, hcell⟩ := hy hne
      have hp' : ad = ⟨b, o, none⟩ := Option.some.inj hp
      rw [hp', Addr.add_lit]
      exact flat_cells hk ys o hcell j c hj
    · intro c hc
      obtain ⟨y, hy', hcy⟩ := List.mem_flatMap.1 hc
      exact h1 y hy' c hcy
    · unfold maxLen; unfold bsz at hb; split at hb <;> omega
    · intro v' w' h2 h3 _
      refine h v' w' ?_ ((Below.refl B w).grown h3 hB (fun j e => (hown.lt j e))) h3
      show w'.ownsRow B e k v' (xs ++ ys).length ((xs ++ ys).flatMap enc)
      rw [List.length_append, List.flatMap_append]; exact h2
abbrev B2 (bx : Nat) (a b : Value) (w : World) : Prop := w.cell? ⟨bx, 1, none⟩ = some a ∧ w.cell? ⟨bx, 2, none⟩ = some b
theorem b2D {w : World} {bx : Nat} {a b : Value} (h : B2 bx a b w) : B2 bx a b w.drew := h
theorem b2A {w : World} {bx : Nat} {a b : Value} (h : B2 bx a b w) (o : Obj) : B2 bx a b (w.alloc o) := ⟨Lib.cell?_alloc_some _ h.1, Lib.cell?_alloc_some _ h.2⟩
theorem b2On {w w' : World} {bx : Nat} {a b : Value} (h : B2 bx a b w) (hb : Below w.heap.size w w') : B2 bx a b w' := ⟨cell_on h.1 hb, cell_on h.2 hb⟩
theorem own_c1 {B : Nat} {w : World} {c : Cl} (hB : B ≤ w.heap.size) : Own Cl.cells 2 90 B (w.alloc (.cells #[.string c.nm, .int .i64 c.kd] 90)) (.slice (some ⟨w.heap.size, 0, none⟩) 1 1) [c] :=
  ⟨rfl, .inr ⟨w.heap.size, 1, _, rfl, hB, alloc_block w _, Nat.le_refl _, by decide, rfl, rfl⟩⟩
theorem small2 {n : Nat} (h : n ≤ 4000000) : n * bsz 2 ≤ 140737488355328 := by unfold bsz; simp; omega
theorem lowD (w : World) (o : Obj) : Below w.heap.size w (w.drew.alloc o) := (Below.refl w.heap.size w).drew.alloc (Nat.le_refl _) o
set_option maxRecDepth 100000 in
set_option maxHeartbeats 1000000 in
theorem rscols_any {v : Value} {s : Sc} {w : World} (hv : ScAt w v s) (hl : s.ks.length + s.vs.length ≤ 3000000) :
    Calls Tryz.prog 39 #[v] w fun e w' => ∃ u, e = .returned u ∧ ColsAt w' u (colsS s) ∧ Below w.heap.size w w' := by
  obtain ⟨pk, nk, ck, pv, nv, cv, rfl, h1, h2⟩ := sc_form hv
  have HK := hid h1
  have HV := hid h2
  have HL := hid hl
  clear h1 h2 hl hv
  have HB := hid ((Below.refl w.heap.size w).alloc (Nat.le_refl _) (.cells #[.string s.nm, .slice pk nk ck, .slice pv nv cv] 52))
  have KB := hid (alloc_block w (.cells #[.string s.nm, .slice pk nk ck, .slice pv nv cv] 52))
  go_enter Tryz.func39, Tryz.ntmps39
  go_wp2_with fail
  have hO : Own Cl.cells 2 90 (w.heap.size + 1) ((w.alloc (.cells #[.string s.nm, .slice pk nk ck, .slice pv nv cv] 52)).alloc (.cells #[.string ⟨#[116, 105, 109, 101]⟩, .int .i64 1] 90)) (.slice (some ⟨w.heap.size + 1, 0, none⟩) 1 1) [cTime] := by
    have h := own_c1 (c := cTime) (Nat.le_refl (w.alloc (.cells #[.string s.nm, .slice pk nk ck, .slice pv nv cv] 52)).heap.size)
    rw [World.size_alloc] at h
    exact h
  have HB2 := hid (HB.out.alloc HB.out.size (.cells #[.string ⟨#[116, 105, 109, 101]⟩, .int .i64 1] 90))
  have KB2 := hid (blk_upS KB.out (.cells #[.string ⟨#[116, 105, 109, 101]⟩, .int .i64 1] 90))
  have HS2 : Hid (w.heap.size + 1 ≤ ((w.alloc (.cells #[.string s.nm, .slice pk nk ck, .slice pv nv cv] 52)).alloc (.cells #[.string ⟨#[116, 105, 109, 101]⟩, .int .i64 1] 90)).heap.size) := by show _ ≤ _; rw [World.size_alloc, World.size_alloc]; omega
  have HO := hid hO
  clear hO
  generalize ((w.alloc (.cells #[.string s.nm, .slice pk nk ck, .slice pv nv cv] 52)).alloc (.cells #[.string ⟨#[116, 105, 109, 101]⟩, .int .i64 1] 90)) = W at *
  have hS0 : B2 w.heap.size (.slice pk nk ck) (.slice pv nv cv) W := ⟨block_cell KB2.out 1, block_cell KB2.out 2⟩
  have HOD : Hid (Own Cl.cells 2 90 (w.heap.size + 1) W.drew (.slice (some ⟨w.heap.size + 1, 0, none⟩) 1 1) [cTime]) := HO.out
  have HBD : Hid (Below w.heap.size w W.drew) := HB2.out.drew
  have HKB : Hid (∀ w3, Below (w.heap.size + 1) W.drew w3 → B2 w.heap.size (.slice pk nk ck) (.slice pv nv cv) w3 ∧ Below w.heap.size w w3) := fun w3 h => by
    have h0 : w3.heap[w.heap.size]? = some (.cells #[.string s.nm, .slice pk nk ck, .slice pv nv cv] 52) := (h.block w.heap.size (Nat.lt_succ_self _)).trans KB2.out
    exact ⟨⟨block_cell h0 1, block_cell h0 2⟩, HBD.out.trans (h.mono (Nat.le_succ _))⟩
  go_region_held3 (B2 w.heap.size (.slice pk nk ck) (.slice pv nv cv)) (((repeat (first | (with_reducible refine b2D ?_) | (with_reducible refine b2A ?_ _))); (with_reducible assumption)))
    (first
    | (have FIRST := HO; refine step_appC elem45 cl_len (fun x _ => cl_cells x) rfl (.tmp 6) (.tmp 8) rfl (by simp [Act.eval]; try rfl) (by simp [Act.eval]; try rfl) HOD.out (HK.out.on HBD.out) (small2 (by have := HL.out; simp; omega)) HS2.out ?_; intro v3 w3 hown3 hb3 _; have HO3 := hid hown3; have S3 := hid hb3; have hS3 := (HKB.out w3 hb3).1; obtain ⟨p3, c3, rfl, -⟩ := (Own.sl hown3 cl_len (small2 (by have := HL.out; simp; omega))); clear hown3 hb3 FIRST HO hS0)
    | (have FIRST := HO3; refine step_appC elem45 cl_len (fun x _ => cl_cells x) rfl (.tmp 9) (.tmp 11) rfl (by simp [Act.eval]; try rfl) (by simp [Act.eval]; try rfl) HO3.out (HV.out.on (HKB.out _ S3.out).2) (small2 (by have := HL.out; simp; omega)) (Nat.le_trans HS2.out S3.out.size) ?_; intro v4 w4 hown4 hb4 _; have HO4 := hid hown4; have S4 := hid (S3.out.trans hb4); have hS4 := (HKB.out w4 S4.out).1; clear hown4 hb4 FIRST HO3 hS3))
  go_wp2_with fail
  go_ret
  exact ⟨_, rfl, (Own.sl HO4.out cl_len (small2 (by have := HL.out; simp; omega))).imp (fun _ _ => trivial), (HKB.out _ S4.out).2⟩
end Go.Proofs.YtlbjbkhcnafhcaaGreat
namespace Go.Proofs.YtlbjbkhcnafhcaaGreat
open Go.RowKit Go.Sort Go.Shelf

theorem growC_any {n : Nat} {w : World} (hn : n ≤ 4000000) :
    Calls Tryz.prog 91 #[.slice none 0 0, .int .i64 (n : Int)] w fun e w' => ∃ v', e = .returned v' ∧ Own Cl.cells 2 90 w.heap.size w' v' [] ∧ Below w.heap.size w w' := by
  by_cases h0 : n = 0
  · subst h0
    refine Calls.mono (show Calls Tryz.prog 91 _ _ _ from Any8.slices_Grow_room Tryz.growC none 0 0 0 w (Nat.le_refl _) (by omega) (by omega) (Nat.le_refl _)) ?_
    rintro e w' ⟨he, rfl⟩
    exact ⟨_, he, Own.nil _ _ _ _ _, Below.refl _ _⟩
  · obtain ⟨i, hi, hz0, hz1, hz2⟩ := info_parts info45
    refine Calls.mono (show Calls Tryz.prog 91 _ _ _ from Any8.slices_Grow_grow Tryz.growC i _ hi hz0 (by rw [hz1]; omega) none 0 0 n [] w (Nat.le_refl _) (by omega) (by rw [hz2]; omega) (by omega) (by simp) (fun _ => rfl) (fun a h => by cases h)) ?_
    rintro e w' ⟨he, rfl⟩
    refine ⟨_, he, ?_, (Below.refl _ _).drew.alloc (Nat.le_refl _) _⟩
    have hge := grownCap_ge w (0 + n) 0 90
    have hle := grownCap_le_maxLen w (0 + n) 0 90 (by unfold maxLen; omega)
    show World.ownsRow _ _ _ _ _ _ _
    refine ⟨by simp, .inr ⟨w.heap.size, _, _, rfl, Nat.le_refl _, heap_alloc_new w.drew _, Nat.zero_le _, hle, ?_, by simp⟩⟩
    have hz : (Value.agg #[.string ⟨#[]⟩, .int .i64 0]).cells.size = 2 := rfl
    simp only [Array.size_append, size_zeroCells, hz, List.size_toArray, List.length_nil]
    show _ = grownCap w (0 + n) 0 90 * 2
    have e : grownCap w (0 + n) 0 (Tryz.growC_ren.t 25) = grownCap w (0 + n) 0 90 := rfl
    rw [e]
    omega
set_option maxRecDepth 100000 in
set_option maxHeartbeats 2000000 in
theorem concatC_any {u v t : Value} {a b c : List Cl} {B : Nat} {w : World} (hblk : w.heap[B]? = some (.cells #[u, v, t] 41 (0, 0))) (hu : ColsAt w u a) (hv : ColsAt w v b) (ht : ColsAt w t c) (hl : a.length + b.length + c.length ≤ 4000000) :
    Calls Tryz.prog 64 #[.slice (some ⟨B, 0, none⟩) 3 3] w fun e w' => ∃ v', e = .returned v' ∧ ColsAt w' v' (a ++ b ++ c) ∧ Below w.heap.size w w' := by
  have HU := hid hu
  have HV := hid hv
  have HT := hid ht
  obtain ⟨pu, cu, rfl, -⟩ := hu
  obtain ⟨pv, cv, rfl, -⟩ := hv
  obtain ⟨pt, ct, rfl, -⟩ := ht
  have KB := hid hblk
  have kb := block_cell hblk
  clear hblk
  have HL := hid hl
  generalize hn : a.length = n at *
  generalize hm : b.length = m at *
  generalize hk : c.length = k at *
  have HN := hid hn
  have HM := hid hm
  have HK := hid hk
  clear hn hm hk
  go_enter Tryz.func64, Tryz.ntmps64
  go_wp2
  refine wp_loop_rounds 4 ?_
  rw [rounds_succ]
  go_wp2
  rw [rounds_succ]
  go_wp2
  rw [rounds_succ]
  go_wp2
  rw [rounds_succ]
  have hG := hid (fun W : World => growC_any (n := n + m + k) (w := W) (by omega))
  go_wp2_with (first | (go_at_call 91; refine (hG.out _).mono ?_; rintro e w1 ⟨v1, rfl, hown, hb1⟩; have HO1 := hid hown; have HB1 := hid hb1; have K1 := hid (block_on KB.out hb1); have k1 := block_cell K1.out; clear hown hb1))
  clear hG
  refine wp_loop_rounds 4 ?_
  rw [rounds_succ]
  go_wp2_with (at_builtin; refine app_any elem45 cl_len (fun x _ => cl_cells x) rfl _ _ rfl rfl HO1.out rfl (SlAt.on HU.out HB1.out) (small2 (by simp; rw [HN.out]; omega)) HB1.out.size ?_; intro v2 w2 hown2 hb2; have HO2 := hid hown2; have HB2 := hid (HB1.out.trans hb2); have K2 := hid ((hb2.block B (lt_of_block KB.out)).trans K1.out); have k2 := block_cell K2.out; clear hown2 hb2)
  rw [rounds_succ]
  go_wp2_with (at_builtin; refine app_any elem45 cl_len (fun x _ => cl_cells x) rfl _ _ rfl rfl HO2.out rfl (SlAt.on HV.out HB2.out) (small2 (by simp; rw [HN.out, HM.out]; omega)) HB2.out.size ?_; intro v3 w3 hown3 hb3; have HO3 := hid hown3; have HB3 := hid (HB2.out.trans hb3); have K3 := hid ((hb3.block B (lt_of_block KB.out)).trans K2.out); have k3 := block_cell K3.out; clear hown3 hb3)
  rw [rounds_succ]
  go_wp2_with (at_builtin; refine app_any elem45 cl_len (fun x _ => cl_cells x) rfl _ _ rfl rfl HO3.out rfl (SlAt.on HT.out HB3.out) (small2 (by simp; rw [HN.out, HM.out, HK.out]; omega)) HB3.out.size ?_; intro v4 w4 hown4 hb4; have HO4 := hid hown4; have HB4 := hid (HB3.out.trans hb4); clear hown4 hb4)
  rw [rounds_succ]
  go_wp2
  go_ret
  rw [List.nil_append] at HO4
  exact ⟨_, rfl, (Own.sl HO4.out cl_len (small2 (by simp; rw [HN.out, HM.out, HK.out]; omega))).imp (fun _ _ => trivial), HB4.out⟩
theorem time_sl {w : World} {B : Nat} (h : w.heap[B]? = some (.cells #[.string ⟨#[116, 105, 109, 101]⟩, .int .i64 1] 90)) : ColsAt w (.slice (some ⟨B, 0, none⟩) 1 1) [cTime] :=
  (lit_sl (xs := [cTime]) h cl_len rfl rfl (Nat.le_refl _) (by simp)).imp fun _ _ => trivial
set_option maxRecDepth 100000 in
set_option maxHeartbeats 1000000 in
theorem scols_any {v : Value} {s : Sc} {w : World} (hv : ScAt w v s) (hl : s.ks.length + s.vs.length ≤ 3000000) :
    Calls Tryz.prog 37 #[v] w fun e w' => ∃ u, e = .returned u ∧ ColsAt w' u (colsS s) ∧ Below w.heap.size w w' := by
  obtain ⟨pk, nk, ck, pv, nv, cv, rfl, h1, h2⟩ := sc_form hv
  have HK := hid h1
  have HV := hid h2
  have HL := hid hl
  clear h1 h2 hl hv
  have HB := hid ((Below.refl w.heap.size w).alloc (Nat.le_refl _) (.cells #[.string s.nm, .slice pk nk ck, .slice pv nv cv] 52))
  have KB := hid (alloc_block w (.cells #[.string s.nm, .slice pk nk ck, .slice pv nv cv] 52))
  have HB2 := hid (HB.out.alloc HB.out.size (.cells #[.string ⟨#[116, 105, 109, 101]⟩, .int .i64 1] 90))
  have hK2 := alloc_block (w.alloc (.cells #[.string s.nm, .slice pk nk ck, .slice pv nv cv] 52)) (.cells #[.string ⟨#[116, 105, 109, 101]⟩, .int .i64 1] 90)
  rw [World.size_alloc] at hK2
  have HB3 := hid (HB2.out.alloc HB2.out.size (.cells #[.slice (some ⟨w.heap.size + 1, 0, none⟩) 1 1, .slice pk nk ck, .slice pv nv cv] 41))
  have hK3 := alloc_block ((w.alloc (.cells #[.string s.nm, .slice pk nk ck, .slice pv nv cv] 52)).alloc (.cells #[.string ⟨#[116, 105, 109, 101]⟩, .int .i64 1] 90)) (.cells #[.slice (some ⟨w.heap.size + 1, 0, none⟩) 1 1, .slice pk nk ck, .slice pv nv cv] 41)
  rw [World.size_alloc, World.size_alloc] at hK3
  have K2 := hid (blk_upS hK2 (.cells #[.slice (some ⟨w.heap.size + 1, 0, none⟩) 1 1, .slice pk nk ck, .slice pv nv cv] 41))
  have K3 := hid hK3
  clear hK2 hK3
  go_enter Tryz.func37, Tryz.ntmps37
  go_wp2_with (go_at_call 64; refine (concatC_any K3.out (time_sl K2.out) (HK.out.on HB3.out) (HV.out.on HB3.out) (by have := HL.out; simp; omega)).mono ?_; rintro e w1 ⟨v1, rfl, hc1, hb1⟩)
  go_ret
  exact ⟨_, rfl, by rw [List.append_assoc] at hc1; exact hc1, below_on HB3.out hb1⟩
end Go.Proofs.YtlbjbkhcnafhcaaGreat
namespace Go.Proofs.YtlbjbkhcnafhcaaGreat
open Go.RowKit Go.Sort Go.Shelf

abbrev B3 (bx : Nat) (n a b : Value) (w : World) : Prop := w.cell? ⟨bx, 0, none⟩ = some n ∧ w.cell? ⟨bx, 1, none⟩ = some a ∧ w.cell? ⟨bx, 2, none⟩ = some b
theorem b3D {w : World} {bx : Nat} {n a b : Value} (h : B3 bx n a b w) : B3 bx n a b w.drew := h
theorem b3S {w : World} {bx z i : Nat} {n a b u : Value} (h : B3 bx n a b w) (hne : bx ≠ z) : B3 bx n a b (w.setCell ⟨z, i, none⟩ u) := by
  obtain ⟨h1, h2, h3⟩ := h
  have e := Below.heap_setCell w ⟨z, i, none⟩ u bx hne
  refine ⟨?_, ?_, ?_⟩ <;> (unfold World.cell? at *; rw [e]; assumption)
theorem slSet {α : Type} {Q : Nat → Prop} {enc : α → List Value} {k : Nat} {w : World} {v u : Value} {xs : List α} {z i : Nat} (h : SlAt Q enc k w v xs) (hq : ∀ b, Q b → b ≠ z) : SlAt Q enc k (w.setCell ⟨z, i, none⟩ u) v xs := by
  obtain ⟨p, cap, hv, hc, hm, hx⟩ := h
  refine ⟨p, cap, hv, hc, hm, fun hne => ?_⟩
  obtain ⟨b, o, hp, hQ, hj⟩ := hx hne
  refine ⟨b, o, hp, hQ, fun j x hjx l u' hl => ?_⟩
  have := hj j x hjx l u' hl
  unfold World.cell? at this ⊢
  rw [Below.heap_setCell w ⟨z, i, none⟩ u b (hq b hQ.1)]
  exact this
theorem zFound {W : World} {w : World} {l : List Sc} {nm : ByteArray} (hb : Below w.heap.size w W) (hn : atS l nm < 0) : Found w l nm (.returned (.tuple #[zSc, .bool false])) W :=
  ⟨⟨_, _, rfl, .inl ⟨hn, rfl, rfl⟩⟩, hb⟩
set_option maxRecDepth 100000 in
set_option maxHeartbeats 2000000 in
theorem sfind_any {v : Value} {l : List Sc} {nm : ByteArray} {w : World} (hv : SchsAt w v l) :
    Calls Tryz.prog 33 #[v, .string nm] w (Found w l nm) := by
  have HV := hid hv
  obtain ⟨hs, ⟨p, cap, rfl, hcap, hmax, hx⟩, hh⟩ := hv
  unfold maxLen at hmax
  have HX := hid hx
  have HH := hid hh
  have hl := hh.1
  clear hx hh
  generalize hn : hs.length = n at *
  have HN := hid hn
  have HL := hid hl
  clear hn
  have HB0 := hid ((Below.refl w.heap.size w).alloc (Nat.le_refl _) (.cells #[.string ⟨#[]⟩, .slice none 0 0, .slice none 0 0] 52))
  have KB0 := hid (alloc_block w (.cells #[.string ⟨#[]⟩, .slice none 0 0, .slice none 0 0] 52))
  by_cases hneg : atS l nm < 0
  · have HNG := hid hneg
    generalize hz : atS l nm = z at *
    have HZ := hid hz
    clear hz hl
    go_enter Tryz.func33, Tryz.ntmps33
    go_wp2_with (go_at_call 44; refine (place_is (HV.out.on HB0.out) HZ.out).mono ?_; rintro e w1 ⟨rfl, hb1⟩; have HB1 := hid (below_on HB0.out hb1); have KB1 := hid (block_on KB0.out hb1); have kb := block_cell KB1.out; have fz := frozen_no KB1.out; clear hb1)
    have KF := Joins.block_setCell (i := 2) (Joins.block_setCell (i := 1) (Joins.block_setCell (i := 0) KB1.out (.string ⟨#[]⟩)) (.slice none 0 0)) (.slice none 0 0)
    have HBF : Below w.heap.size w (((w1.setCell ⟨w.heap.size, 0, none⟩ (.string ⟨#[]⟩)).setCell ⟨w.heap.size, 1, none⟩ (.slice none 0 0)).setCell ⟨w.heap.size, 2, none⟩ (.slice none 0 0)) := ((HB1.out.setCell (Nat.le_refl _) _).setCell (Nat.le_refl _) _).setCell (Nat.le_refl _) _
    generalize (((w1.setCell ⟨w.heap.size, 0, none⟩ (.string ⟨#[]⟩)).setCell ⟨w.heap.size, 1, none⟩ (.slice none 0 0)).setCell ⟨w.heap.size, 2, none⟩ (.slice none 0 0)) = WF at KF HBF ⊢
    have kcf := block_cell KF
    clear KF kb fz
    exact bodyPost_ret (v := .tuple #[zSc, .bool false]) (by simp [results, Tryz.results33, go_sem, kcf, zSc]) rfl (zFound HBF (by rw [HZ.out]; exact HNG.out))
  · obtain ⟨j, hj, hat⟩ := at_nat hneg
    have hjn : j < n := by omega
    have hjh : j < hs.length := by rw [HN.out]; exact hjn
    obtain ⟨b, o, rfl, -, hjx⟩ := HX.out (by intro e; have := HN.out; rw [e] at this; simp at this; omega)
    have HJ := hid (hjx j _ (get!_some hjh))
    have hsi := HH.out.2 j _ _ (get!_some hjh) (get!_some hj)
    generalize hs[j]! = hd at HJ hsi
    obtain ⟨pk, nk, ck, pv, nv, cv, rfl⟩ := sh_form hsi
    have HSK := hid hsi.ks
    have HSV := hid hsi.vs
    dsimp only at HSK HSV
    have hlb := block_lt_of_cell (HJ.out 0 _ rfl)
    dsimp only at hlb
    generalize hs0 : l[j]! = s at *
    have HS0 := hid hs0
    have HAT := hid hat
    have HJL := hid hj
    clear hsi hjx HX HH hl hneg hat hs0 hj
    have hj0 : ¬ (j : Int) < 0 := by omega
    have eg : ∀ args w, (callFunc 45 args).run Tryz.prog w = .ok (.enter 45 args) w := enters_of Tryz.func45 (by kernel_rfl) rfl
    have HEG := hid eg
    clear eg
    go_enter Tryz.func33, Tryz.ntmps33
    go_wp2_with (go_at_call 44; refine (place_is (HV.out.on HB0.out) HAT.out).mono ?_; rintro e w1 ⟨rfl, hb1⟩; have HB1 := hid (below_on HB0.out hb1); have KB1 := hid (block_on KB0.out hb1); obtain ⟨c0, c1, c2⟩ := sh_cells (HJ.out.on HB1.out); dsimp only at c0 c1 c2; clear hb1)
    have HLW : Hid (w.heap.size < w1.heap.size) := lt_of_block KB1.out
    have HB2 := hid (HB1.out.alloc HB1.out.size (.cells #[.string s.nm, .slice pk nk ck, .slice pv nv cv] 52))
    have KB2 := hid (blk_upS KB1.out (.cells #[.string s.nm, .slice pk nk ck, .slice pv nv cv] 52))
    have KC2 := hid (alloc_block w1 (.cells #[.string s.nm, .slice pk nk ck, .slice pv nv cv] 52))
    clear c0 c1 c2
    have hneB : w1.heap.size ≠ w.heap.size := by have := HLW.out; omega
    generalize w1.heap.size = BX at *
    generalize (w1.alloc (.cells #[.string s.nm, .slice pk nk ck, .slice pv nv cv] 52)) = W at *
    have hS0 : B3 BX (.string s.nm) (.slice pk nk ck) (.slice pv nv cv) W := ⟨block_cell KC2.out 0, block_cell KC2.out 1, block_cell KC2.out 2⟩
    have HKB : Hid (∀ w3, Below W.heap.size W.drew w3 → B3 BX (.string s.nm) (.slice pk nk ck) (.slice pv nv cv) w3 ∧ w3.heap[w.heap.size]? = some (.cells #[.string ⟨#[]⟩, .slice none 0 0, .slice none 0 0] 52) ∧ Below w.heap.size w w3) := fun w3 h => by
      have h1 : w3.heap[BX]? = some (.cells #[.string s.nm, .slice pk nk ck, .slice pv nv cv] 52) := (h.block BX (lt_of_block KC2.out)).trans KC2.out
      have h2 : w3.heap[w.heap.size]? = some (.cells #[.string ⟨#[]⟩, .slice none 0 0, .slice none 0 0] 52) := (h.block w.heap.size (lt_of_block KB2.out)).trans KB2.out
      exact ⟨⟨block_cell h1 0, block_cell h1 1, block_cell h1 2⟩, h2, HB2.out.drew.trans (h.mono HB2.out.size)⟩
    have M1 : Hid True := trivial
    go_region_held3 (B3 BX (.string s.nm) (.slice pk nk ck) (.slice pv nv cv)) (((repeat (first | (with_reducible refine b3D ?_) | (with_reducible refine b3S ?_ hneB))); (with_reducible assumption)))
      (first
      | (have FIRST := M1; refine step_callC (v := .slice pk nk ck) rfl (.tmp 21) 41 rfl (by simp [Act.eval]) HEG.out ?_; refine (cloneC_any (HSK.out.on HB2.out.drew)).mono ?_; rintro e w3 ⟨v3, rfl, hc3, hb3⟩; refine ⟨_, rfl, ?_⟩; have HC3 := hid hc3; obtain ⟨p3, q3, rfl, -⟩ := hc3; have S3 : Hid (Below W.heap.size W.drew w3) := hb3; have hS3 := (HKB.out w3 S3.out).1; have M2 : Hid True := trivial; clear hb3 FIRST M1 hS0)
      | (have FIRST := M2; refine step_callC (v := .slice pv nv cv) rfl (.tmp 24) 41 rfl (by simp [Act.eval]) HEG.out ?_; refine (cloneC_any (HSV.out.on (HKB.out _ S3.out).2.2)).mono ?_; rintro e w4 ⟨v4, rfl, hc4, hb4⟩; refine ⟨_, rfl, ?_⟩; have HC4 := hid hc4; obtain ⟨p4, q4, rfl, -⟩ := hc4; have S4 : Hid (Below W.heap.size W.drew w4) := S3.out.trans (hb4.mono S3.out.size); have HC5 := hid (HC3.out.on hb4); have hS4 := (HKB.out w4 S4.out).1; have kb4 := block_cell (HKB.out w4 S4.out).2.1; have fz4 := frozen_no (HKB.out w4 S4.out).2.1; clear hb4 FIRST M2 hS3))
    go_wp2_with fail
    obtain ⟨-, K4, HB4⟩ := HKB.out w4 S4.out
    have KF := Joins.block_setCell (i := 2) (Joins.block_setCell (i := 1) (Joins.block_setCell (i := 0) K4 (.string s.nm)) (.slice p3 s.ks.length q3)) (.slice p4 s.vs.length q4)
    have HBF : Below w.heap.size w (((w4.setCell ⟨w.heap.size, 0, none⟩ (.string s.nm)).setCell ⟨w.heap.size, 1, none⟩ (.slice p3 s.ks.length q3)).setCell ⟨w.heap.size, 2, none⟩ (.slice p4 s.vs.length q4)) := ((HB4.setCell (Nat.le_refl _) _).setCell (Nat.le_refl _) _).setCell (Nat.le_refl _) _
    have hlt4 : w.heap.size < W.heap.size := lt_of_block KB2.out
    have hw3 : W.heap.size ≤ w3.heap.size := S3.out.size
    have C5 : ColsAt (((w4.setCell ⟨w.heap.size, 0, none⟩ (.string s.nm)).setCell ⟨w.heap.size, 1, none⟩ (.slice p3 s.ks.length q3)).setCell ⟨w.heap.size, 2, none⟩ (.slice p4 s.vs.length q4)) (.slice p3 s.ks.length q3) s.ks :=
      (slSet (slSet (slSet HC5.out (fun b hb => by have hb' : W.heap.size ≤ b := hb; omega)) (fun b hb => by have hb' : W.heap.size ≤ b := hb; omega)) (fun b hb => by have hb' : W.heap.size ≤ b := hb; omega)).imp fun _ _ => trivial
    have C4 : ColsAt (((w4.setCell ⟨w.heap.size, 0, none⟩ (.string s.nm)).setCell ⟨w.heap.size, 1, none⟩ (.slice p3 s.ks.length q3)).setCell ⟨w.heap.size, 2, none⟩ (.slice p4 s.vs.length q4)) (.slice p4 s.vs.length q4) s.vs :=
      (slSet (slSet (slSet HC4.out (fun b hb => by have hb' : w3.heap.size ≤ b := hb; omega)) (fun b hb => by have hb' : w3.heap.size ≤ b := hb; omega)) (fun b hb => by have hb' : w3.heap.size ≤ b := hb; omega)).imp fun _ _ => trivial
    generalize (((w4.setCell ⟨w.heap.size, 0, none⟩ (.string s.nm)).setCell ⟨w.heap.size, 1, none⟩ (.slice p3 s.ks.length q3)).setCell ⟨w.heap.size, 2, none⟩ (.slice p4 s.vs.length q4)) = WF at KF HBF C4 C5 ⊢
    have kcf := block_cell KF
    clear KF kb4 fz4
    exact bodyPost_ret (v := .tuple #[.agg #[.string s.nm, .slice p3 s.ks.length q3, .slice p4 s.vs.length q4], .bool true]) (by simp [results, Tryz.results33, go_sem, kcf]) rfl ⟨⟨_, _, rfl, .inr ⟨j, HJL.out, HAT.out, rfl, by rw [HS0.out]; exact ⟨_, _, rfl, C5, C4⟩⟩⟩, HBF⟩
theorem sfind_none {v : Value} {l : List Sc} {nm : ByteArray} {w : World} (hv : SchsAt w v l) (hn : atS l nm < 0) : Calls Tryz.prog 33 #[v, .string nm] w fun e w' => e = .returned (.tuple #[.agg #[.string ⟨#[]⟩, .slice none 0 0, .slice none 0 0], .bool false]) ∧ Below w.heap.size w w' :=
  (sfind_any hv).mono fun _ _ h => h.none hn
theorem sfind_some {v : Value} {l : List Sc} {nm : ByteArray} {w : World} {j : Nat} (hv : SchsAt w v l) (hn : atS l nm = (j : Int)) : Calls Tryz.prog 33 #[v, .string nm] w (FoundAt w l[j]!) :=
  (sfind_any hv).mono fun _ _ h => by
    obtain ⟨⟨u, rfl, hs⟩, hb⟩ := h.some hn
    obtain ⟨pk, nk, ck, pv, nv, cv, rfl, h1, h2⟩ := sc_form hs
    exact ⟨_, _, _, _, _, _, rfl, h1, h2, hb⟩
end Go.Proofs.YtlbjbkhcnafhcaaGreat
namespace Go.Proofs.YtlbjbkhcnafhcaaGreat
open Go.RowKit Go.Sort Go.Shelf

theorem info52 : (Tryz.prog.info? 52).map (fun i => (i.zero, i.size, i.bytes)) = some (some (.agg #[.string ⟨#[]⟩, .slice none 0 0, .slice none 0 0]), 3, 64) := by kernel_rfl
theorem elem52 : ElemN 22 52 3 64 := by
  obtain ⟨i, hi, h0, h1, h2⟩ := info_parts info52
  exact ⟨Tryz.underlying22, by omega, i, _, hi, h0, h1, Nat.le_of_eq h2, rfl⟩
theorem sh_one {h : Sh} (hk : h.kv.oneCell' = true) (hv : h.vv.oneCell' = true) : ∀ c ∈ h.cells, c.oneCell' = true := by
  intro c hc; simp [Sh.cells] at hc; rcases hc with rfl | rfl | rfl
  · rfl
  · exact hk
  · exact hv
theorem sh1 {w : World} {B : Nat} {h : Sh} (hb : w.heap[B]? = some (.cells #[.string h.nm, h.kv, h.vv] 52)) : SlAt any Sh.cells 3 w (.slice (some ⟨B, 0, none⟩) 1 1) [h] := by
  refine ⟨_, 1, rfl, ⟨Nat.le_refl _, fun e => by cases e⟩, by simp [maxLen], fun _ => ⟨B, 0, rfl, ⟨trivial, by simp [bsz]⟩, fun j x hj i u hu => ?_⟩⟩
  have hj0 : j = 0 := by have := (List.getElem?_eq_some_iff.1 hj).1; simp at this; omega
  subst hj0
  simp at hj
  subst hj
  rw [block_cell hb]
  simpa [Sh.cells] using hu
set_option maxHeartbeats 400000 in
theorem cloneCT_any {u : Value} {r : List Cl} {w : World} (hu : ColsAt w u r) :
    Calls Tryz.prog 45 #[u] w fun e w' => ∃ p c, e = .returned (.slice p r.length c) ∧ ColT w' (.slice p r.length c) r ∧ Below w.heap.size w w' := by
  have HU := hid hu
  obtain ⟨p, cap, rfl, hcap, hmax, hx⟩ := hu
  clear hcap hmax hx
  have q22 : ∀ (w : World) (a : Option Addr) (n c n' c' : Nat), (binOp .eql 41 (.slice a n c) (.slice none n' c')).run Tryz.prog w = .ok (.bool a.isNone) w := fun w a n c n' c' => Lib.run_eql_slice_nil w _ _ a n c n' c' Tryz.underlying41
  generalize hn : r.length = n at *
  have HN := hid hn
  clear hn
  cases p with
  | none =>
    have hn := SlAt.empty HU.out
    subst hn
    obtain rfl : n = 0 := HN.out.symm
    go_enter Tryz.func45, Tryz.ntmps45
    go_wp2
    go_ret
    exact ⟨none, 0, rfl, SlAt.nil _ _ _ _, Below.refl _ _⟩
  | some ad =>
    go_enter Tryz.func45, Tryz.ntmps45
    go_wp2_with (at_builtin; refine app_any elem45 cl_len (fun x _ => cl_cells x) rfl _ _ rfl rfl (Own.made Cl.cells 2 90 w.heap.size w (Nat.le_refl _)) rfl (SlAt.on HU.out ((Below.refl _ _).alloc (Nat.le_refl _) _)) (by simpa using SlAt.bound HU.out) (by simp) ?_; intro v' w1 hown hb1)
    go_ret
    rw [List.nil_append] at hown
    have hr := own_colT hown (SlAt.bound HU.out)
    obtain ⟨p, c, rfl⟩ := own_formN hown HN.out
    exact ⟨p, c, rfl, hr, ((Below.refl _ _).alloc (Nat.le_refl _) _).trans hb1⟩
theorem headsT_snoc {w : World} {hs : List Sh} {l : List Sc} {h : Sh} {s : Sc} (hh : HeadsT w hs l) (hi : h.nm = s.nm ∧ ColT w h.kv s.ks ∧ ColT w h.vv s.vs) : HeadsT w (hs ++ [h]) (l ++ [s]) := by
  refine ⟨by simp [hh.1], fun j x q h1 h2 => ?_⟩
  by_cases hlt : j < hs.length
  · rw [List.getElem?_append_left hlt] at h1
    rw [List.getElem?_append_left (by rw [← hh.1]; exact hlt)] at h2
    exact hh.2 j x q h1 h2
  · have hj : j = hs.length := by have := (List.getElem?_eq_some_iff.1 h1).1; simp at this; omega
    subst hj
    rw [List.getElem?_append_right (Nat.le_refl _)] at h1
    rw [hh.1, List.getElem?_append_right (Nat.le_refl _)] at h2
    simp at h1 h2
    subst h1 h2
    exact hi
theorem row_off52 {B : Nat} {w : World} {v : Value} {hs : List Sh} (h : Own Sh.cells 3 52 B w v hs) {k : Nat} (hk : tyC w k) : v.ownBlock ≠ some k := fun e => by
  obtain ⟨c, f, hc⟩ := own_kind h e
  obtain ⟨c', f', hc'⟩ := hk
  rw [hc] at hc'; cases hc'
theorem b3On {w w' : World} {bx : Nat} {n a b : Value} (h : B3 bx n a b w) (hb : Below w.heap.size w w') : B3 bx n a b w' := ⟨SN.cell_onB h.1 hb, SN.cell_onB h.2.1 hb, SN.cell_onB h.2.2 hb⟩
theorem b3A {w : World} {bx : Nat} {n a b : Value} (h : B3 bx n a b w) (o : Obj) : B3 bx n a b (w.alloc o) := b3On h ((Below.refl _ _).alloc (Nat.le_refl _) o)
theorem takeS {S : List Sc} {k : Nat} {s : Sc} (h : S[k]? = some s) : S.take (k + 1) = S.take k ++ [s] := by rw [List.take_add_one, h]; rfl
theorem enters45 : ∀ args w, (callFunc 45 args).run Tryz.prog w = .ok (.enter 45 args) w := enters_of Tryz.func45 (by kernel_rfl) rfl
theorem small64 {n m : Nat} (h : n ≤ 100) (hm : m ≤ 1) : (n + m) * 64 ≤ 140737488355328 := by omega
theorem own_52 {B : Nat} {w : World} {v : Value} {hs : List Sh} (h : Own Sh.cells 3 52 B w v hs) (hl : hs.length * bsz 3 ≤ 140737488355328) : SlAt (ty52 w) Sh.cells 3 w v hs := by
  have h0 := Own.sl h sh_len hl
  obtain ⟨p, cap, hv, hc, hm, hx⟩ := h0
  refine ⟨p, cap, hv, hc, hm, fun hn => ?_⟩
  obtain ⟨b, o, hp, hQ, hj⟩ := hx hn
  refine ⟨b, o, hp, ⟨?_, hQ.2⟩, hj⟩
  rcases h.2 with ⟨_, h1⟩ | ⟨g, cap', cur, hv', hg, hblk, q⟩
  · exact absurd (List.eq_nil_of_length_eq_zero h1) hn
  · rw [hv, hp] at hv'
    cases hv'
    exact ⟨_, _, hblk⟩
set_option maxRecDepth 100000 in
set_option maxHeartbeats 2000000 in
theorem copyOf_any {v : Value} {S : List Sc} {w : World} (hv : SchsAt w v S) (hl : S.length ≤ 10) :
    Calls Tryz.prog 21 #[v] w fun e w' => ∃ p c, e = .returned (.slice p S.length c) ∧ SchB w' (.slice p S.length c) S ∧ Below w.heap.size w w' := by
  obtain ⟨hs, ⟨p, cap, rfl, hcap, hmax, hx⟩, hh⟩ := hv
  have HX := hid hx
  have HH := hid hh
  have HL := hid hl
  have hln := hh.1
  clear hx hh hmax hl
  have hcap1 := hcap.1
  clear hcap
  generalize hn : hs.length = n at *
  have HN := hid hn
  have HLn := hid hln
  clear hn hln
  have hn10 : n ≤ 10 := by have := HLn.out; have := HL.out; omega
  go_enter Tryz.func21, Tryz.ntmps21
  go_wp2
  go_loopw [3, 8] (fun v i wr => ∃ (k : Nat) (hs' : List Sh), k ≤ n ∧ i = .int .i64 k ∧ Hid (Own Sh.cells 3 52 w.heap.size wr v hs') ∧ Hid (HeadsT wr hs' (S.take k)) ∧ Hid (Below w.heap.size w wr)) (fun _ i _ => n - (intOf i).toNat)
  case atStart => exact ⟨0, [], by omega, rfl, Own.nil _ _ _ _ _, ⟨rfl, fun j h s h1 _ => by simp at h1⟩, Below.refl _ _⟩
  case round =>
    obtain ⟨k, hs', hk, rfl, HO, HR, HB⟩ := hrel
    by_cases hlt : k < n
    · have hk1 : k < hs.length := by rw [HN.out]; exact hlt
      have hk2 : k < S.length := by rw [← HLn.out]; exact hlt
      obtain ⟨b, o, rfl, -, hjx⟩ := HX.out (by intro e; rw [e] at hk1; simp at hk1)
      have HJ := hid (hjx k _ (List.getElem?_eq_getElem hk1))
      have hsi := HH.out.2 k _ _ (List.getElem?_eq_getElem hk1) (List.getElem?_eq_getElem hk2)
      have HT := hid (takeS (List.getElem?_eq_getElem hk2))
      generalize hs[k] = hd at HJ hsi
      generalize S[k] = s at hsi HT
      obtain ⟨pk, nk, ck, pv, nv, cv, rfl⟩ := sh_form hsi
      have HSK := hid (hsi.ks.on HB.out)
      have HSV := hid (hsi.vs.on HB.out)
      dsimp only at HSK HSV
      obtain ⟨c0, c1, c2⟩ := sh_cells (HJ.out.on HB.out)
      dsimp only at c0 c1 c2
      have hk10 : hs'.length ≤ 100 := by have := HR.out.1; rw [List.length_take] at this; have := HL.out; omega
      have HK10 := hid hk10
      clear hsi hjx HX HH HJ hk1 hk2 hk10
      obtain ⟨pr, cr, rfl⟩ := own_formN HO.out rfl
      go_wp2_with fail
      clear c0 c1 c2
      have HB1 := hid (HB.out.alloc HB.out.size (.cells #[.string s.nm, .slice pk nk ck, .slice pv nv cv] 52))
      have KC := hid (alloc_block wr (.cells #[.string s.nm, .slice pk nk ck, .slice pv nv cv] 52))
      have HWW := hid ((Below.refl wr.heap.size wr).alloc (Nat.le_refl _) (.cells #[.string s.nm, .slice pk nk ck, .slice pv nv cv] 52))
      have HSK1 := hid (HSK.out.on HWW.out)
      have HSV1 := hid (HSV.out.on HWW.out)
      have HO1 := hid (own_kp (T := fun _ => False) HO.out (Kp.of HWW.out) (fun _ _ => id))
      have HR1 := hid (HR.out.on HWW.out)
      have HNE : Hid (∀ g, (Value.slice pr hs'.length cr).ownBlock = some g → g ≠ wr.heap.size) := fun g hg e => by have := (own_at HO.out hg).2; omega
      clear HSK HSV HO HR HWW
      generalize wr.heap.size = BX at *
      generalize hW : (wr.alloc (.cells #[.string s.nm, .slice pk nk ck, .slice pv nv cv] 52)) = W at *
      clear hW
      have hS0 : B3 BX (.string s.nm) (.slice pk nk ck) (.slice pv nv cv) W := ⟨block_cell KC.out 0, block_cell KC.out 1, block_cell KC.out 2⟩
      have HS := hid hS0
      have M1 : Hid True := trivial
      go_region_held3 (B3 BX (.string s.nm) (.slice pk nk ck) (.slice pv nv cv)) (((repeat (first | (with_reducible refine b3D ?_) | (with_reducible refine b3A ?_ _))); (with_reducible assumption)))
        (first
        | (have FIRST := M1; refine step_callC (v := .slice pk nk ck) rfl (.tmp 16) 41 rfl (by simp [Act.eval]) enters45 ?_; refine (cloneCT_any (HSK1.out.on (Below.refl _ _).drew)).mono ?_; rintro e w3 ⟨p3, q3, rfl, hc3, hb3⟩; refine ⟨_, rfl, ?_⟩; have HC3 := hid hc3; have S3 : Hid (Below W.heap.size W w3) := (Below.refl W.heap.size W).drew.trans hb3; have hS3 := b3On HS.out S3.out; have M2 : Hid True := trivial; clear hb3 hc3 FIRST M1 hS0)
        | (have FIRST := M2; refine step_callC (v := .slice pv nv cv) rfl (.tmp 19) 41 rfl (by simp [Act.eval]) enters45 ?_; refine (cloneCT_any (HSV1.out.on S3.out)).mono ?_; rintro e w4 ⟨p4, q4, rfl, hc4, hb4⟩; refine ⟨_, rfl, ?_⟩; have HC4 := hid hc4; have S4 : Hid (Below W.heap.size W w4) := S3.out.trans (hb4.mono S3.out.size); have HC5 := hid (HC3.out.on hb4); have hS4 := b3On HS.out S4.out; have S5 : Hid (∀ A, Below W.heap.size W (w4.alloc A)) := fun A => S4.out.alloc S4.out.size A; have M3 : Hid True := trivial; clear hb4 hc4 FIRST M2 hS3)
        | (have FIRST := M3; refine step_appN (N := 64) (B := w.heap.size) (xs := hs') (ys := [⟨s.nm, .slice p3 s.ks.length q3, .slice p4 s.vs.length q4⟩]) elem52 sh_len (fun x hx => by simp at hx; subst hx; exact sh_one rfl rfl) rfl (.tmp 12) (.tmp 22) rfl (by simp [Act.eval]; try rfl) (by simp [Act.eval]; try rfl) (own_kp (T := fun _ => False) HO1.out (Kp.of (by first | exact S5.out _ | exact (S5.out _).drew)) (fun _ _ => id)) (sh1 (by first | exact alloc_block _ _ | exact (alloc_block w4 _))) (small64 HK10.out (by simp)) (by decide) (by have := HB1.out.size; have := S4.out.size; first | (simp; omega) | (show _ ≤ (w4.alloc _).heap.size; simp; omega)) ?_; intro v5 w5 hown5 hg5; obtain ⟨p5, c5, rfl⟩ := own_formN (n := hs'.length + 1) hown5 (by simp); have HO5 := hid hown5; have KC4 : (w4.alloc (.cells #[.string s.nm, .slice p3 s.ks.length q3, .slice p4 s.vs.length q4] 52)).heap[BX]? = _ := ((S5.out (.cells #[.string s.nm, .slice p3 s.ks.length q3, .slice p4 s.vs.length q4] 52)).block BX (lt_of_block KC.out)).trans KC.out; have HKp : Hid (Kp (fun k => (Value.slice pr hs'.length cr).ownBlock = some k) (w4.alloc (.cells #[.string s.nm, .slice p3 s.ks.length q3, .slice p4 s.vs.length q4] 52)) w5) := Kp.grown hg5 (fun k e => e); have KC5 := HKp.out.blk KC4 (fun e => HNE.out BX e rfl); have hS5 : B3 BX (.string s.nm) (.slice pk nk ck) (.slice pv nv cv) w5 := ⟨block_cell KC5 0, block_cell KC5 1, block_cell KC5 2⟩; clear hown5 hg5 FIRST M3 KC4 KC5))
      go_wp2_with fail
      go_roundw
      case rel =>
        have hA : Below W.heap.size W (w4.alloc (.cells #[.string s.nm, .slice p3 s.ks.length q3, .slice p4 s.vs.length q4] 52)) := S5.out _
        have hB4 : Below w4.heap.size w4 (w4.alloc (.cells #[.string s.nm, .slice p3 s.ks.length q3, .slice p4 s.vs.length q4] 52)) := (Below.refl _ _).alloc (Nat.le_refl _) _
        have hO4 := own_kp (T := fun _ => False) HO1.out (Kp.of hA) (fun _ _ => id)
        have hne : ∀ k, tyC (w4.alloc (.cells #[.string s.nm, .slice p3 s.ks.length q3, .slice p4 s.vs.length q4] 52)) k → ¬ (Value.slice pr hs'.length cr).ownBlock = some k := fun k hk => row_off52 hO4 hk
        refine ⟨k + 1, _, by omega, by go_num, HO5.out, ?_, ?_⟩
        · show HeadsT _ _ _
          rw [HT.out]
          exact headsT_snoc ((HR1.out.on hA).kp HKp.out hne) ⟨rfl, (HC5.out.on hB4).kp HKp.out hne, (HC4.out.on hB4).kp HKp.out hne⟩
        · have hb := HKp.out.below (B := w.heap.size) (by have := HB1.out.size; have := hA.size; omega) (fun k hk => (own_at hO4 hk).1)
          exact (HB1.out.trans (hA.mono HB1.out.size)).trans hb
      case measure => simp [intOf]; omega
    · have hks : k = n := by omega
      subst hks
      have hta : S.take k = S := List.take_of_length_le (by rw [← HLn.out]; exact Nat.le_refl _)
      rw [hta] at HR
      go_wp2
      go_ret
      obtain ⟨p3, c3, rfl⟩ := own_formN (n := S.length) HO.out HR.out.1
      exact ⟨p3, c3, rfl, ⟨hs', own_52 HO.out (by have := HR.out.1; have := HL.out; unfold bsz; simp; omega), HR.out⟩, HB.out⟩
end Go.Proofs.YtlbjbkhcnafhcaaGreat
namespace Go.Proofs.YtlbjbkhcnafhcaaGreat
open Go.RowKit Go.Sort Go.Shelf Go.Maps

set_option maxRecDepth 100000 in
set_option maxHeartbeats 1000000 in
theorem lnew_bad {v : Value} {S : List Sc} {room : Int} {w : World} (hv : SchsAt w v S) (hc : checkS S = 50) :
    Calls Tryz.prog 8 #[v, .int .i64 room] w fun e w' => e = .returned (.tuple #[.pointer none, .int .i64 50]) ∧ Below w.heap.size w w' := by
  have HV := hid hv
  have HC := hid hc
  clear hv hc
  go_enter Tryz.func8, Tryz.ntmps8
  go_wp2_with (first | (go_at_call 20; refine (scheck_is HV.out HC.out).mono ?_; rintro e w1 ⟨rfl, hb1⟩))
  exact bodyPost_ret (v := .tuple #[.pointer none, .int .i64 50]) (by simp [results, Tryz.results8, go_sem]) rfl ⟨rfl, hb1⟩
set_option maxRecDepth 100000 in
set_option maxHeartbeats 1000000 in
theorem lnew_ok {P : Nat → Prop} {v : Value} {S : List Sc} {room : Int} {w : World} (hv : SchsAt w v S) (hc : checkS S = 0) :
    Calls Tryz.prog 8 #[v, .int .i64 room] w fun e w' => ∃ B b x, e = .returned (.tuple #[dp b, .int .i64 0]) ∧ Lf B P w' b S room x [] ∧ w.heap.size ≤ B ∧ B ≤ w'.heap.size ∧ Below w.heap.size w w' := by
  have HV := hid hv
  have HC := hid hc
  have HL : Hid (S.length ≤ 10) := by have := (check_parts0 hc).1; show _ ≤ _; omega
  have hmm := @run_makeMap Tryz.prog
  clear hv hc
  go_enter Tryz.func8, Tryz.ntmps8
  go_wp2_with (first
    | (go_at_call 20; refine (scheck_is HV.out HC.out).mono ?_; rintro e w1 ⟨rfl, hb1⟩; have HB1 := hid hb1; clear hb1)
    | (go_at_call 21; refine (copyOf_any (HV.out.on HB1.out) HL.out).mono ?_; rintro e w2 ⟨p2, c2, rfl, hs2, hb2⟩; have HS2 := hid hs2; have HB2 := hid (HB1.out.trans (hb2.mono HB1.out.size)); clear hs2 hb2)
    | (go_at_call 22; refine (SN.new_any (P := P)).mono ?_; rintro e w3 ⟨b3, m3, rfl, hk3, hd3, hb3⟩; have HD3 := hid hd3; have HB3 := hid hb3; have k3 := block_cell hk3; clear hk3 hd3 hb3))
  have hw2 := HB2.out.size
  have hw3 := HB3.out.size
  have hbm := (Below.refl w3.heap.size w3).alloc (Nat.le_refl _) (.map #[] 0)
  have hbb := hbm.alloc hbm.size (.cells #[.slice p2 S.length c2, .int .i64 room, .int .i64 0, .int .i64 room, .slice none 0 0, .map (some m3), .map (some w3.heap.size)] 72)
  have hblk := alloc_block (w3.alloc (.map #[] 0)) (.cells #[.slice p2 S.length c2, .int .i64 room, .int .i64 0, .int .i64 room, .slice none 0 0, .map (some m3), .map (some w3.heap.size)] 72)
  refine bodyPost_ret (v := .tuple #[dp (w3.alloc (.map #[] 0)).heap.size, .int .i64 0]) (by simp [results, Tryz.results8, go_sem]) rfl ⟨w2.heap.size, _, ⟨.slice p2 S.length c2, .slice none 0 0, m3, w3.heap.size, []⟩, rfl, ⟨[], [], ⟨(HD3.out.on hbb).dk (by simp; omega) hblk, HS2.out.on (HB3.out.trans (hbb.mono hw3)), hw3, ?_, ⟨.map [], (World.ownsMap_made _ _ _ _).alloc _, AgR.nil⟩, ⟨rfl, fun j r q h1 _ => by simp at h1, fun i j r s _ h1 _ => by simp at h1⟩, rfl⟩, Iv.nil⟩, hw2, by simp; omega, HB2.out.trans ((HB3.out.trans (hbb.mono hw3)).mono hw2)⟩
  obtain ⟨D, hD, _⟩ := HD3.out.map
  have := hD.lt
  show w3.heap.size ≠ m3
  omega
set_option maxRecDepth 100000 in
theorem points_any {B : Nat} {P : Nat → Prop} {w : World} {b : Nat} {S : List Sc} {room : Int} {x : Lx} {pts : List Pt} (h : Lf B P w b S room x pts) :
    Calls Tryz.prog 16 #[dp b] w fun e w' => e = .returned (.int .i64 (pts.length : Int)) ∧ w' = w := by
  obtain ⟨l, R, hl, _⟩ := h.lk
  have k0 := block_cell hl.dk.blk
  go_enter Tryz.func16, Tryz.ntmps16
  go_wp2
  go_ret
  exact ⟨rfl, rfl⟩
end Go.Proofs.YtlbjbkhcnafhcaaGreat
