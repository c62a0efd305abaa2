/-
  Print's same: two nodes held against one another.
  slices.EqualFunc of nodes by print's same.
  Print's Check.
-/
import Derived.Test.YtmpjmimhoikknaaGreatDoorK24
import Derived.Test.YtmpjmimhoikknaaGreatDoorK28
import Derived.Lib.QuietBelow
import Derived.Deep.MidRow
namespace Go.Proofs.YtmpjmimhoikknaaGreatDoor
open Go.RowKit Go.Joins Go.Sort

theorem quiet_load_mid {op : Oper} {a : Act} {C : World → Prop} {K : Act → Prop} (ty : TypeId) (x : Operand) (ho : op.op = .load ty x)
    (b o : Nat) (hx : a.eval x = .pointer (some ⟨b, o, none⟩)) (cs : List Value) (d : TypeDesc) (hS : ∀ w, C w → w.rangeAt b o cs)
    (hu : Tryz.prog.underlying ty = some d) (hd : d.isRow = true) (hi : (Tryz.prog.info? ty).map (·.size) = some cs.length) (h : K (a.put op.dst (.agg cs.toArray))) : op.quiet Tryz.prog a C K :=
  ⟨_, fun w hw => by
    unfold Oper.quietAt execOp
    simp only [ho, hx, Instr.loadAt, Instr.sureAddr, Sem.run_bind, Sem.run_pure, Result.andThen_ok, run_loadVar_mid w b o ty cs d (hS w hw) hu hd hi]
    exact ⟨rfl, rfl⟩, h⟩
section
variable {w : World} {q a b : Nx}
/- What two nodes are held against one another by. -/
def npk (q : Nx) : Np × List Int := (q.np, [q.h0, q.h1, q.h2, q.h3, q.h4, q.h5, q.h6, q.h7])
instance : DecidableEq Np := fun a b => decidable_of_iff (a.kind = b.kind ∧ a.s = b.s ∧ a.n = b.n ∧ a.from_ = b.from_ ∧ a.to_ = b.to_ ∧ a.vk = b.vk ∧ a.vn = b.vn ∧ a.vs = b.vs ∧ a.l = b.l ∧ a.names = b.names ∧ a.aggs = b.aggs) (by cases a; cases b; simp)
def samePl (a b : Nx) : Bool := eqP a.np.kind a.np.n a.np.from_ a.np.to_ (St a.np.s) b.np.kind b.np.n b.np.from_ b.np.to_ (St b.np.s) (eqV a.np.vk a.np.vn (St a.np.vs) a.h0 a.h1 a.h2 a.h3 a.h4 a.h5 a.h6 a.h7 b.np.vk b.np.vn (St b.np.vs) b.h0 b.h1 b.h2 b.h3 b.h4 b.h5 b.h6 b.h7)
theorem St_iff (x y : List UInt8) : St x = St y ↔ x = y := ⟨St_inj, fun e => by rw [e]⟩
theorem npk_parts (a b : Nx) : decide (npk a = npk b) = (samePl a b && (decide (a.np.l = b.np.l) && (decide (a.np.names = b.np.names) && decide (a.np.aggs = b.np.aggs)))) := by
  obtain ⟨⟨k, s, n, f, t, vk, vn, vs, l, nm, ag⟩, h0, h1, h2, h3, h4, h5, h6, h7, _, _, _⟩ := a
  obtain ⟨⟨k', s', n', f', t', vk', vn', vs', l', nm', ag'⟩, g0, g1, g2, g3, g4, g5, g6, g7, _, _, _⟩ := b
  rw [Bool.eq_iff_iff]
  simp only [npk, samePl, eqP, eqV, eqH, Bool.and_eq_true, decide_eq_true_eq, Prod.mk.injEq, Np.mk.injEq, List.cons.injEq, St_iff, and_true]
  constructor
  · rintro ⟨⟨h1, h2, h3, h4, h5, h6, h7, h8, h9, h10, h11⟩, h12, h13, h14, h15, h16, h17, h18, h19⟩
    exact ⟨⟨⟨h1, h3, h4, h5, h2⟩, ⟨h6, h7, h8⟩, h12, h13, h14, h15, h16, h17, h18, h19⟩, h9, h10, h11⟩
  · rintro ⟨⟨⟨h1, h3, h4, h5, h2⟩, ⟨h6, h7, h8⟩, h12, h13, h14, h15, h16, h17, h18, h19⟩, h9, h10, h11⟩
    exact ⟨⟨h1, h2, h3, h4, h5, h6, h7, h8, h9, h10, h11⟩, h12, h13, h14, h15, h16, h17, h18, h19⟩
set_option maxRecDepth 100000 in
set_option maxHeartbeats 4000000 in
theorem same_any {Q1 Q2 : Nat → Prop} (ha : NxAt Q1 w a) (hb : NxAt Q2 w b) : Calls Tryz.prog 44 #[.agg a.cells.toArray, .agg b.cells.toArray] w fun e w' => e = .returned (.bool (decide (npk a = npk b))) ∧ Below w.heap.size w w' := by
  have h0 := (Kp.alloc (fun _ => False) (w.alloc (.cells a.cells.toArray 44)) (.cells b.cells.toArray 44)).blk (alloc_block w (.cells a.cells.toArray 44)) id
  have h1 := alloc_block (w.alloc (.cells a.cells.toArray 44)) (.cells b.cells.toArray 44)
  rw [World.size_alloc] at h1
  have HB : Hid (Below w.heap.size w ((w.alloc (.cells a.cells.toArray 44)).alloc (.cells b.cells.toArray 44))) := ((Below.refl _ _).alloc (Nat.le_refl _) _).alloc (by simp) _
  generalize hW : (w.alloc (.cells a.cells.toArray 44)).alloc (.cells b.cells.toArray 44) = W at *
  have HW := hid hW
  clear hW
  have hca : ∀ j v, a.cells[j]? = some v → W.cell? ⟨w.heap.size, j, none⟩ = some v := fun j v hv => by rw [block_cell h0 j]; simpa using hv
  have hcb : ∀ j v, b.cells[j]? = some v → W.cell? ⟨w.heap.size + 1, j, none⟩ = some v := fun j v hv => by rw [block_cell h1 j]; simpa using hv
  have HL1 : Hid (∀ w', (∃ p : Regrown, w' = grow (redrawn W p.d) p.os) → w'.rangeAt w.heap.size 0 a.cells) := fun w' ⟨p, hp⟩ j v hv => by rw [hp, Nat.zero_add]; exact cell_regrown (hca j v hv) p.d p.os
  have HL2 : Hid (∀ w', (∃ p : Regrown, w' = grow (redrawn W p.d) p.os) → w'.rangeAt (w.heap.size + 1) 0 b.cells) := fun w' ⟨p, hp⟩ j v hv => by rw [hp, Nat.zero_add]; exact cell_regrown (hcb j v hv) p.d p.os
  have HPa : Hid (∀ W', Calls Tryz.prog 70 #[.agg a.cells.toArray] W' fun e w' => e = .returned (plV a) ∧ Below W'.heap.size W' w') := fun W' => plain_any
  have HPb : Hid (∀ W', Calls Tryz.prog 70 #[.agg b.cells.toArray] W' fun e w' => e = .returned (plV b) ∧ Below W'.heap.size W' w') := fun W' => plain_any
  have he : ∀ w, (Op.equalIn 10000 120 (plV a) (plV b)).run Tryz.prog w = .ok (samePl a b) w := fun w => eql_plain _ _ _ _ _ _ _ _ _ _ _ _ _ _ _ _ _ _ _ _ _ _ _ _ _ _ _ _ _ _ _ _ w
  have a16 : ∀ d os, (grow (redrawn W d) os).cell? ⟨w.heap.size, 16, none⟩ = some a.lv := cell_regrown (hca 16 _ rfl)
  have a17 : ∀ d os, (grow (redrawn W d) os).cell? ⟨w.heap.size, 17, none⟩ = some a.nv := cell_regrown (hca 17 _ rfl)
  have a18 : ∀ d os, (grow (redrawn W d) os).cell? ⟨w.heap.size, 18, none⟩ = some a.gv := cell_regrown (hca 18 _ rfl)
  have b16 : ∀ d os, (grow (redrawn W d) os).cell? ⟨w.heap.size + 1, 16, none⟩ = some b.lv := cell_regrown (hcb 16 _ rfl)
  have b17 : ∀ d os, (grow (redrawn W d) os).cell? ⟨w.heap.size + 1, 17, none⟩ = some b.nv := cell_regrown (hcb 17 _ rfl)
  have b18 : ∀ d os, (grow (redrawn W d) os).cell? ⟨w.heap.size + 1, 18, none⟩ = some b.gv := cell_regrown (hcb 18 _ rfl)
  have HC1 : Hid (∀ d os, Calls Tryz.prog 71 #[a.lv, b.lv] (grow (redrawn W d) os) fun e w' => e = .returned (.bool (decide (a.np.l = b.np.l))) ∧ Below (grow (redrawn W d) os).heap.size (grow (redrawn W d) os) w') := fun d os => eqints_any ((ha.l.on HB.out).on (below_regrown W d os)) ((hb.l.on HB.out).on (below_regrown W d os))
  have HC2 : Hid (∀ d os, Calls Tryz.prog 72 #[a.nv, b.nv] (grow (redrawn W d) os) fun e w' => e = .returned (.bool (decide (a.np.names = b.np.names))) ∧ Below (grow (redrawn W d) os).heap.size (grow (redrawn W d) os) w') := fun d os => eqstrs_any ((ha.n.on HB.out).on (below_regrown W d os)) ((hb.n.on HB.out).on (below_regrown W d os))
  have HC3 : Hid (∀ d os, Calls Tryz.prog 73 #[a.gv, b.gv] (grow (redrawn W d) os) fun e w' => e = .returned (.bool (decide (a.np.aggs = b.np.aggs))) ∧ Below (grow (redrawn W d) os).heap.size (grow (redrawn W d) os) w') := fun d os => eqaggs_any ((ha.g.on HB.out).on (below_regrown W d os)) ((hb.g.on HB.out).on (below_regrown W d os))
  have HR := hid (npk_parts a b)
  obtain ⟨p1, c1, f1, -, -⟩ := ha.l.form
  obtain ⟨p2, c2, f2, -, -⟩ := ha.n.form
  obtain ⟨p3, c3, f3, -, -⟩ := ha.g.form
  obtain ⟨p4, c4, f4, -, -⟩ := hb.l.form
  obtain ⟨p5, c5, f5, -, -⟩ := hb.n.form
  obtain ⟨p6, c6, f6, -, -⟩ := hb.g.form
  rw [f1] at a16 HC1
  rw [f2] at a17 HC2
  rw [f3] at a18 HC3
  rw [f4] at b16 HC1
  rw [f5] at b17 HC2
  rw [f6] at b18 HC3
  generalize samePl a b = r1 at *
  generalize decide (a.np.l = b.np.l) = r2 at *
  generalize decide (a.np.names = b.np.names) = r3 at *
  generalize decide (a.np.aggs = b.np.aggs) = r4 at *
  clear f1 f2 f3 f4 f5 f6 hca hcb h0 h1 ha hb
  rw [HR.out]
  unfold plV at he HPa HPb
  clear HR
  go_enter Tryz.func44, Tryz.ntmps44
  go_upto_region 1 with fail
  rw [HW.out]
  rcases (show r1 = false ∨ (r1 = true ∧ r2 = false) ∨ (r1 = true ∧ r2 = true ∧ r3 = false) ∨ (r1 = true ∧ r2 = true ∧ r3 = true ∧ r4 = false) ∨ (r1 = true ∧ r2 = true ∧ r3 = true ∧ r4 = true) by cases r1 <;> cases r2 <;> cases r3 <;> cases r4 <;> simp) with rfl | ⟨rfl, rfl⟩ | ⟨rfl, rfl, rfl⟩ | ⟨rfl, rfl, rfl, rfl⟩ | ⟨rfl, rfl, rfl, rfl⟩
  all_goals
    (refine wp_region_quiet_below (by kernel_rfl) (by kernel_rfl) ?_
     go_big_quiet_want
     refine quiet_load_mid 44 _ rfl _ 0 rfl a.cells _ HL1.out Tryz.underlying44 rfl size_node ?_
     go_frame
     go_big_quiet_on
     go_big_quiet_step (first | (go_at_call 70; exact Calls.regrown_of (HPa.out _)))
     go_big_quiet_want
     refine quiet_load_mid 44 _ rfl _ 0 rfl b.cells _ HL2.out Tryz.underlying44 rfl size_node ?_
     go_frame
     go_big_quiet_on
     go_big_quiet_step (first | (go_at_call 70; exact Calls.regrown_of (HPb.out _)))
     repeat (go_big_quiet_step (first | (go_at_call 71; exact Calls.regrown_of (HC1.out _ _)) | (go_at_call 72; exact Calls.regrown_of (HC2.out _ _)) | (go_at_call 73; exact Calls.regrown_of (HC3.out _ _))))
     refine wpQuiet_nil ?_
     intro _ hw'
     obtain ⟨⟨dq, osq⟩, hw''⟩ := hw'
     subst hw''
     go_wp2
     go_ret
     exact ⟨rfl, HB.out.trans ((below_regrown W dq osq).mono HB.out.size)⟩)
end
end Go.Proofs.YtmpjmimhoikknaaGreatDoor
namespace Go.Proofs.YtmpjmimhoikknaaGreatDoor
open Go.RowKit Go.Joins

theorem box_cells {w : World} {b : Nat} {q : Nx} (h : w.heap[b]? = some (.cells q.cells.toArray 44 (0, 0))) : CellsAt w b 0 q.cells := fun j v hv => by rw [Nat.zero_add, block_cell h j]; simpa using hv
theorem Qx.bel {B : Nat} {w w' : World} {v : Value} {qs : List Nx} (h : Qx (fun b => b < B) w v qs) (hb : Below B w w') : Qx (fun b => b < B) w' v qs := ⟨h.sl.bel hb, fun q hq => ⟨(h.each q hq).l.bel hb, (h.each q hq).n.bel hb, (h.each q hq).g.bel hb⟩⟩
theorem NxAt.on {Q : Nat → Prop} {w w' : World} {q : Nx} (h : NxAt Q w q) (hb : Below w.heap.size w w') : NxAt Q w' q := ⟨h.l.on hb, h.n.on hb, h.g.on hb⟩
theorem Qx.on {Q : Nat → Prop} {w w' : World} {v : Value} {qs : List Nx} (h : Qx Q w v qs) (hb : Below w.heap.size w w') : Qx Q w' v qs := ⟨h.sl.on hb, fun q hq => (h.each q hq).on hb⟩
section
variable {w : World} {va vb : Value} {xs ys : List Nx}
set_option maxRecDepth 100000 in
set_option maxHeartbeats 2000000 in
theorem eqnodes_any {Q1 Q2 : Nat → Prop} (ha : Qx Q1 w va xs) (hb : Qx Q2 w vb ys) : Calls Tryz.prog 43 #[va, vb, .func (.func 44) #[] #[]] w fun e w' => e = .returned (.bool (decide (xs.map npk = ys.map npk))) ∧ Below w.heap.size w w' := by
  have HA := hid ha
  have HB := hid hb
  obtain ⟨p, c, rfl, hc1, hc2⟩ := ha.sl.form
  obtain ⟨p', c', rfl, hd1, hd2⟩ := hb.sl.form
  unfold maxLen at hc2 hd2
  clear ha hb
  by_cases hlen : xs.length = ys.length
  · generalize hn : xs.length = n at *
    rw [← hlen] at hd1 HB ⊢
    have HN := hid hn
    have HM := hid hlen
    clear hn hlen
    have hnn : ((n : Int) != n) = false := by simp
    go_enter Tryz.func43, Tryz.ntmps43
    go_upto_region 4 with fail
    go_loopw [17] (fun x wr => ∃ k : Nat, k ≤ n ∧ x = .int .i64 k ∧ Hid ((xs.map npk).take k = (ys.map npk).take k) ∧ Hid (Below w.heap.size w wr)) (fun x _ => n - (intOf x).toNat)
    case atStart => exact ⟨0, by omega, rfl, rfl, Below.refl _ _⟩
    case round =>
      obtain ⟨k, hk, rfl, HT, HBr⟩ := hrel
      by_cases hlt : k < n
      · obtain ⟨x, hx⟩ : ∃ x, xs[k]? = some x := ⟨xs[k]'(by rw [HN.out]; omega), List.getElem?_eq_getElem _⟩
        obtain ⟨y, hy⟩ : ∃ y, ys[k]? = some y := ⟨ys[k]'(by rw [← HM.out]; omega), List.getElem?_eq_getElem _⟩
        obtain ⟨g, og, rfl, -, h1⟩ := (HA.out.on HBr.out).sl.at hx
        obtain ⟨g', og', rfl, -, h2⟩ := (HB.out.on HBr.out).sl.at hy
        have HX1 := hid ((HA.out.on HBr.out).each x (List.mem_of_getElem? hx))
        have HY1 := hid ((HB.out.on HBr.out).each y (List.mem_of_getElem? hy))
        have kI : (k : Int) < n := by omega
        have k0 : (0 : Int) ≤ k := by omega
        have HX : Hid ((xs.map npk)[k]? = some (npk x)) := by show _ = _; rw [List.getElem?_map, hx]; rfl
        have HY : Hid ((ys.map npk)[k]? = some (npk y)) := by show _ = _; rw [List.getElem?_map, hy]; rfl
        have H1 := hid h1
        have H2 := hid h2
        have HI := hid hlt
        clear h1 h2 hx hy hlt
        go_upto_region 6 with (first
          | (refine load_nx (q := x) rfl _ rfl rfl H1.out ?_)
          | (refine store_nx (q := x) rfl _ _ rfl rfl rfl (nx_one HX1.out) (alloc_block wr _) rfl ?_; intro w4 h4 k4; have H4 := hid h4; have K4 := hid k4; clear h4 k4))
        have HB4 : Hid (Below wr.heap.size wr w4) := ((Below.refl _ _).alloc (Nat.le_refl _) (.cells zNd 44)).trans (K4.out.below (by simp) (fun k e => by omega))
        have H24 : Hid (CellsAt w4 g' (og' + k * 19) y.cells) := H2.out.kp (T := fun _ => False) (Kp.of HB4.out) id
        have HY4 := hid (HY1.out.on HB4.out)
        go_upto_region 7 with (first
          | (refine load_nx (q := y) rfl _ rfl rfl H24.out ?_)
          | (refine store_nx (q := y) rfl _ _ rfl rfl rfl (nx_one HY4.out) (alloc_block w4 _) rfl ?_; intro w5 h5 k5; have H5 := hid h5; have K5 := hid k5; clear h5 k5))
        have HB5 : Hid (Below w4.heap.size w4 w5) := ((Below.refl _ _).alloc (Nat.le_refl _) (.cells zNd 44)).trans (K5.out.below (by simp) (fun k e => by omega))
        have HC5 := hid (box_cells (block_on H4.out HB5.out))
        have HD5 := hid (box_cells H5.out)
        have HBw := hid (HBr.out.trans ((HB4.out.trans (HB5.out.mono HB4.out.size)).mono HBr.out.size))
        have HSm := hid (same_any ((HX1.out.on HB4.out).on HB5.out) (HY4.out.on HB5.out))
        clear H1 H2 H24 HX1 HY1 HY4 K4 K5 H4 H5
        by_cases hxy : npk x = npk y
        · rw [decide_eq_true hxy] at HSm
          have HY2 : Hid ((ys.map npk)[k]? = some (npk x)) := by rw [hxy]; exact HY.out
          clear hxy
          go_wp2_with (first
            | (refine load_nx (q := x) rfl _ rfl rfl HC5.out ?_)
            | (refine load_nx (q := y) rfl _ rfl rfl HD5.out ?_)
            | (go_at_call 44; refine HSm.out.mono ?_; rintro e w6 ⟨rfl, hb6⟩; have HB6 := hid hb6; clear hb6))
          go_roundw
          case rel => exact ⟨k + 1, by omega, by go_num, take_eq_step HT.out HX.out HY2.out, HBw.out.trans (HB6.out.mono HBw.out.size)⟩
          case measure => simp [intOf]; have := HI.out; omega
        · rw [decide_eq_false hxy] at HSm
          have HE : Hid (decide (xs.map npk = ys.map npk) = false) := by
            show _ = _
            rw [decide_eq_false]
            intro e
            rw [e, HY.out] at HX
            exact hxy (Option.some.inj HX.out).symm
          clear hxy
          go_wp2_with (first
            | (refine load_nx (q := x) rfl _ rfl rfl HC5.out ?_)
            | (refine load_nx (q := y) rfl _ rfl rfl HD5.out ?_)
            | (go_at_call 44; refine HSm.out.mono ?_; rintro e w6 ⟨rfl, hb6⟩; have HB6 := hid hb6; clear hb6))
          go_ret
          exact ⟨by rw [HE.out]; rfl, HBw.out.trans (HB6.out.mono HBw.out.size)⟩
      · have kI : ¬ (k : Int) < n := by omega
        have HE : Hid (decide (xs.map npk = ys.map npk) = true) := by
          have h := HT.out
          have h1 := HN.out
          have h2 := HM.out
          rw [List.take_of_length_le (by rw [List.length_map]; omega), List.take_of_length_le (by rw [List.length_map]; omega)] at h
          exact decide_eq_true h
        go_wp2_with fail
        go_ret
        exact ⟨by rw [HE.out]; rfl, HBr.out⟩
  · have hnn : ((xs.length : Int) != ys.length) = true := by simp; omega
    have HE : Hid (decide (xs.map npk = ys.map npk) = false) := decide_eq_false (fun e => hlen (by have := congrArg List.length e; simpa using this))
    clear hlen
    go_enter Tryz.func43, Tryz.ntmps43
    go_wp2_with fail
    go_ret
    exact ⟨by rw [HE.out]; rfl, Below.refl _ _⟩
end
end Go.Proofs.YtmpjmimhoikknaaGreatDoor
namespace Go.Proofs.YtmpjmimhoikknaaGreatDoor
open Go.RowKit Go.Joins

/- A tree's nodes stand ahead of those that name them. -/
theorem nm_ahead {i : Nat} : ∀ (l : List Int) (seen s : List Int), nmL i seen l = some s → ∀ e ∈ l, 0 ≤ e ∧ e < (i : Int)
  | [], _, _, _, e, he => by cases he
  | k :: r, seen, s, h, e, he => by
    unfold nmL at h
    split at h
    · cases h
    · rename_i hk
      rcases List.mem_cons.1 he with rfl | he
      · omega
      · exact nm_ahead r _ _ h e he
theorem tree_ahead : ∀ (ns : List Np) (i : Nat) (seen : List Int), treeL ns i seen = true → ∀ (j : Nat) (n : Np), ns[j]? = some n → (n.l.length : Int) = belowN n.kind ∧ ∀ e ∈ n.l, 0 ≤ e ∧ e < ((i + j : Nat) : Int)
  | [], _, _, _, j, n, hj => by simp at hj
  | x :: r, i, seen, h, j, n, hj => by
    unfold treeL at h
    split at h
    · rename_i hl
      cases hn : nmL i seen x.l with
      | none => rw [hn] at h; cases h
      | some s =>
        rw [hn] at h
        cases j with
        | zero =>
          simp at hj; subst hj
          exact ⟨hl, fun e he => by have := nm_ahead _ _ _ hn e he; omega⟩
        | succ j =>
          have := tree_ahead r (i + 1) s h j n (by simpa using hj)
          exact ⟨this.1, fun e he => by have := this.2 e he; omega⟩
    · cases h
theorem isTree_ne {ns : List Np} (h : isTreeB ns = true) : 0 < ns.length ∧ ns.length ≤ 128 := by
  unfold isTreeB at h
  split at h
  · cases h
  · omega
theorem ahd_of {qs : List Nx} (h : isTreeB (qs.map (·.np)) = true) : Ahd (qs.map xn) := by
  have hn := isTree_ne h
  unfold isTreeB at h
  rw [if_neg (by omega)] at h
  intro i x hx
  rw [List.getElem?_map] at hx
  cases hq : qs[i]? with
  | none => rw [hq] at hx; cases hx
  | some q =>
    rw [hq] at hx; cases hx
    have := tree_ahead _ 0 [] h i q.np (by rw [List.getElem?_map, hq]; rfl)
    rw [Nat.zero_add] at this
    exact this
def npk0 (n : Np) : Np × List Int := (n, [0, 0, 0, 0, 0, 0, 0, 0])
def wordsX (qs : List Nx) : List (List UInt8) := wd (qs.map xn) qs.length (qs.length - 1)
def readX (qs : List Nx) : List Np × Nat × Int := parseS ((tokensS (wordsX qs)).map tp)
def chkB (qs : List Nx) : Bool := isTreeB (qs.map (·.np)) && (decide ((readX qs).2.2 = 0) && decide ((readX qs).1.map npk0 = qs.map npk))
def Nx.of (q : Nd) : Nx := ⟨q.np, 0, 0, 0, 0, 0, 0, 0, 0, q.lv, q.nv, q.gv⟩
theorem SlAt.mapE {α β : Type} {Q : Nat → Prop} {e1 : α → List Value} {e2 : β → List Value} {k : Nat} {w : World} {v : Value} {xs : List α} {f : α → β} (h : SlAt Q e1 k w v xs) (he : ∀ x, e2 (f x) = e1 x) : SlAt Q e2 k w v (xs.map f) := h.map he
theorem Nq.qx {n : Nat} {w : World} {v : Value} {ns : List Np} (h : Nq n w v ns) : ∃ qs : List Nx, Qx (fun b => n ≤ b ∧ b < w.heap.size) w v qs ∧ qs.map npk = ns.map npk0 ∧ qs.map (·.np) = ns ∧ ∀ q ∈ qs, q.h0 = 0 ∧ q.h1 = 0 ∧ q.h2 = 0 ∧ q.h3 = 0 ∧ q.h4 = 0 ∧ q.h5 = 0 ∧ q.h6 = 0 ∧ q.h7 = 0 := by
  obtain ⟨qs, h1, h2, h3⟩ := h
  refine ⟨qs.map Nx.of, ⟨(h1.sl nd_len).map (fun _ => rfl), fun q hq => ?_⟩, ?_, ?_, fun q hq => ?_⟩
  · obtain ⟨q0, hq0, rfl⟩ := List.mem_map.1 hq
    have := h2 q0 hq0
    exact ⟨this.l.sl (fun _ => rfl), this.n.sl (fun _ => rfl), this.g.sl (fun _ => rfl)⟩
  · rw [← h3, List.map_map, List.map_map]; rfl
  · rw [← h3, List.map_map]; rfl
  · obtain ⟨q0, hq0, rfl⟩ := List.mem_map.1 hq
    exact ⟨rfl, rfl, rfl, rfl, rfl, rfl, rfl, rfl⟩
theorem Qx.imp {Q Q' : Nat → Prop} {w : World} {v : Value} {qs : List Nx} (h : Qx Q w v qs) (hq : ∀ b, Q b → Q' b) : Qx Q' w v qs := ⟨h.sl.imp hq, fun q hm => ⟨(h.each q hm).l.imp hq, (h.each q hm).n.imp hq, (h.each q hm).g.imp hq⟩⟩
/- What of nodes must hold for print to have room. -/
structure Room (qs : List Nx) : Prop where
  ok : ∀ q ∈ qs, NxOk q
  len : isTreeB (qs.map (·.np)) = true → ∀ i, i < qs.length → (wd (qs.map xn) (i + 1) i).length ≤ 1000000000000
  str : ∀ i, ∀ s ∈ wd (qs.map xn) (i + 1) i, (s.length : Int) ≤ 140737488355328
section
variable {w : World} {v : Value} {qs : List Nx}
theorem q_one {w w1 : World} (hB : Below w.heap.size w w1) (h : Qx (fun b => b < w.heap.size) w v qs) : Qx (fun b => b < w1.heap.size) w1 v qs := (h.on hB).imp (fun _ hb => Nat.lt_of_lt_of_le hb hB.size)
set_option maxRecDepth 100000 in
set_option maxHeartbeats 2000000 in
theorem Check_any (h : Qx (fun b => b < w.heap.size) w v qs) (hG : Gq w) (hR : Room qs) : Calls Tryz.prog 17 #[.agg #[v]] w fun e w' => e = .returned (.int .i64 (if chkB qs then 0 else 120)) ∧ Below w.heap.size w w' := by
  obtain ⟨p, cap, rfl, hc1, hc2⟩ := h.sl.form
  unfold maxLen at hc2
  have HB0 : Hid (Below w.heap.size w (w.alloc (.cells #[.slice p qs.length cap] 24))) := (Below.refl _ _).alloc (Nat.le_refl _) _
  have HZ0 := hid (alloc_block w (.cells #[.slice p qs.length cap] 24))
  generalize hW : w.alloc (.cells #[.slice p qs.length cap] 24) = w1 at *
  have HW := hid hW
  have HQ1 := hid (q_one HB0.out h)
  have HG1 := hid (hG.next HB0.out)
  have HR := hid hR
  have HT := hid (isTree_any HQ1.out)
  have k1 := block_cell HZ0.out
  clear hW h hG hR
  cases ht : isTreeB (qs.map (·.np)) with
  | false =>
    have HC : Hid (chkB qs = false) := by show _ = _; unfold chkB; rw [ht]; rfl
    rw [ht] at HT
    rw [HC.out]
    clear ht
    go_enter Tryz.func17, Tryz.ntmps17
    go_upto_region 1 with fail
    rw [HW.out]
    go_wp2_with (go_at_call 40; refine HT.out.mono ?_; rintro e w2 ⟨rfl, hb2⟩; have HB2 := hid (HB0.out.trans (hb2.mono HB0.out.size)); clear hb2)
    go_ret
    exact ⟨rfl, HB2.out⟩
  | true =>
    have hne := isTree_ne ht
    rw [List.length_map] at hne
    have n1 : (1 : Int) ≤ qs.length := by omega
    have n2 : (qs.length : Int) - 1 = ((qs.length - 1 : Nat) : Int) := by omega
    have HNe := hid hne
    have HA := hid (ahd_of ht)
    have HLn := hid (HR.out.len ht (qs.length - 1) (by omega))
    have HSt := hid (HR.out.str (qs.length - 1))
    have e1 : qs.length - 1 + 1 = qs.length := by omega
    rw [e1] at HLn HSt
    have HWd : Hid (∀ W, Below w1.heap.size w1 W → Calls Tryz.prog 36 #[.slice p qs.length cap, .int .i64 ((qs.length - 1 : Nat) : Int)] W fun e w' => ∃ v, e = .returned v ∧ Own str1 1 9 W.heap.size w' v (wordsX qs) ∧ Below W.heap.size W w') := fun W hW => by
      have := words_any (i := qs.length - 1) HA.out HR.out.ok (by omega) (q_one hW HQ1.out) (HG1.out.next hW) (by rw [e1]; have := HLn.out; omega)
      rwa [e1] at this
    generalize hz : (if chkB qs = true then (0 : Int) else 120) = z
    have HC : Hid (z = if (decide ((readX qs).2.2 = 0) && decide ((readX qs).1.map npk0 = qs.map npk)) = true then 0 else 120) := by show _ = _; rw [← hz]; unfold chkB; rw [ht]; rfl
    rw [ht] at HT
    clear ht hne e1 hz
    go_enter Tryz.func17, Tryz.ntmps17
    go_upto_region 1 with fail
    rw [HW.out]
    go_upto_region 4 with (first
      | (go_at_call 40; refine HT.out.mono ?_; rintro e w2 ⟨rfl, hb2⟩; have HB2 := hid hb2; have k2 := block_cell (block_on HZ0.out hb2); have HZ2 := hid (block_on HZ0.out hb2); clear hb2)
      | (go_at_call 36; refine (HWd.out w2 HB2.out).mono ?_; rintro e w3 ⟨v3, rfl, ho3, hb3⟩; have HB3 := hid (HB2.out.trans (hb3.mono HB2.out.size)); have HO3 := hid ((Own.sl ho3 (fun _ => rfl)).imp (fun b hb => hb.2)); clear ho3 hb3)
      | (go_at_call 42; refine (ptokens_any HO3.out (by exact HSt.out) (by exact HLn.out) (HG1.out.next HB3.out).p.g).mono ?_; rintro e w4 ⟨v4, rfl, ht4, hb4⟩; have HB4 := hid (HB3.out.trans (hb4.mono HB3.out.size)); have HT4 := hid ht4.sl; clear ht4 hb4)
      | (go_at_call 41; refine (Parse_any HT4.out).mono ?_; rintro e w5 ⟨v5, rfl, hn5, hb5⟩; have HB5 := hid (HB4.out.trans (hb5.mono HB4.out.size)); have HN5 := hid hn5; obtain ⟨qs5, hx5, hk5, -, -⟩ := hn5.qx; obtain ⟨p5, c5, rfl, -, -⟩ := hx5.sl.form; have HX5 := hid hx5; have HK5 := hid hk5; clear hn5 hb5 hx5 hk5))
    have HB6 : Hid (Below w5.heap.size w5 (w5.alloc (.cells #[.slice p5 qs5.length c5] 24))) := (Below.refl _ _).alloc (Nat.le_refl _) _
    have k6 : (w5.alloc (.cells #[.slice p5 qs5.length c5] 24)).cell? ⟨w5.heap.size, 0, none⟩ = some (.slice p5 qs5.length c5) := by rw [block_cell (alloc_block w5 _) 0]; rfl
    have HBa := hid (HB5.out.trans (HB6.out.mono HB5.out.size))
    have k7 : (w5.alloc (.cells #[.slice p5 qs5.length c5] 24)).cell? ⟨w.heap.size, 0, none⟩ = some (.slice p qs.length cap) := by rw [block_cell (block_on HZ0.out HBa.out) 0]; rfl
    have HEq := hid (eqnodes_any (HX5.out.on HB6.out) (HQ1.out.on HBa.out))
    rw [HK5.out] at HEq
    have HRd : Hid (parseS ((tokensS (wordsX qs)).map tp) = readX qs) := rfl
    rw [HRd.out] at HEq ⊢
    have HBz := hid (HB0.out.trans (HBa.out.mono HB0.out.size))
    generalize w5.alloc (.cells #[.slice p5 qs5.length c5] 24) = w6 at *
    obtain ⟨r, hr⟩ : ∃ r, decide ((readX qs).1.map npk0 = qs.map npk) = r := ⟨_, rfl⟩
    obtain ⟨er, her⟩ : ∃ er, (readX qs).2.2 = er := ⟨_, rfl⟩
    obtain ⟨at5, hat⟩ : ∃ at5, ((readX qs).2.1 : Int) = at5 := ⟨_, rfl⟩
    rw [her, hat]
    rw [hr] at HEq
    rw [her, hr] at HC
    clear k1 k2 HK5 HN5 HT4 HO3 HWd HRd hr her hat
    by_cases he : er = 0
    · subst he
      cases r
      all_goals
        (go_wp2_with (go_at_call 43; refine HEq.out.mono ?_; rintro e w7 ⟨rfl, hb7⟩; have HB7 := hid hb7; clear hb7)
         go_ret
         exact ⟨by rw [HC.out]; rfl, HBz.out.trans (HB7.out.mono HBz.out.size)⟩)
    · have b1 : (er != 0) = true := by simp [he]
      rw [decide_eq_false he] at HC
      clear he
      go_wp2_with fail
      go_ret
      exact ⟨by rw [HC.out]; rfl, HBz.out⟩
end
end Go.Proofs.YtmpjmimhoikknaaGreatDoor
