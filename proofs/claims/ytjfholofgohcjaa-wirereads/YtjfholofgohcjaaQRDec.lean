/-
  What the reference's Decode returns, for any bytes.
-/
import Derived.Test.YtjfholofgohcjaaQRDStp
import Derived.Deep.CutRange
namespace Go.Proofs.Ytjfholofgohcjaa
open Go.RowKit Go.Sort Go.Shelf

abbrev nT : Array Value := #[.slice none 0 0, .slice none 0 0]
/- The three tables of the call: the result's, the empty one, the one that is read. -/
structure DS (w wr : World) (cv rv : Value) : Prop where
  res : wr.heap[w.heap.size]? = some (.cells nT 25)
  non : wr.heap[w.heap.size + 1]? = some (.cells nT 25)
  tab : wr.heap[w.heap.size + 1 + 1]? = some (.cells #[cv, rv] 25)
  low : Below w.heap.size w wr
  sz : w.heap.size + 3 ≤ wr.heap.size
theorem DS.on {w wr w1 : World} {cv rv : Value} (h : DS w wr cv rv) (hb : Below (w.heap.size + 3) wr w1) : DS w w1 cv rv :=
  ⟨(hb.block _ (by omega)).trans h.res, (hb.block _ (by omega)).trans h.non, (hb.block _ (by omega)).trans h.tab, h.low.trans (hb.mono (by omega)), Nat.le_trans h.sz hb.size⟩
def RDPost (xs : List UInt8) (w : World) (e : Ending) (w' : World) : Prop :=
  (∃ cs rs v', decS xs = some (cs, rs) ∧ e = .returned (.tuple #[v', .int .i64 0]) ∧ TabAt w' v' cs rs ∧ Below w.heap.size w w') ∨
  (decS xs = none ∧ e = .returned (.tuple #[.agg nT, .int .i64 40]) ∧ Below w.heap.size w w')
theorem dec_no {xs : List UInt8} (h : ¬ (9 ≤ xs.length ∧ numB (xs.take 4) = (xs.length : Int) - 8)) : decS xs = none := by
  cases hd : decS xs with
  | none => rfl
  | some z => obtain ⟨cs, rs⟩ := z; have := dec_parts hd; exact absurd ⟨this.1, this.2.1⟩ h
theorem stored2R {w w2 : World} {c r c' r' : Value} (hk : w2.heap[w.heap.size]? = some (.cells #[c, r] 25)) (hb : Below w.heap.size w w2) :
    ((w2.setCell ⟨w.heap.size, 0, none⟩ c').setCell ⟨w.heap.size, 1, none⟩ r').heap[w.heap.size]? = some (.cells #[c', r'] 25) ∧ Below w.heap.size w ((w2.setCell ⟨w.heap.size, 0, none⟩ c').setCell ⟨w.heap.size, 1, none⟩ r') :=
  ⟨set_block (set_block hk _) _, (hb.setCell (by simp) _).setCell (by simp) _⟩
set_option maxRecDepth 100000 in
set_option maxHeartbeats 2000000 in
theorem rdec_short {v : Value} {xs : List UInt8} {w : World} (hv : BAt w v xs) (h : xs.length < 9) : Calls Try.prog 29 #[v] w (RDPost xs w) := by
  have HD := hid (dec_no (xs := xs) (by omega))
  obtain ⟨p, cap, rfl, -⟩ := hv
  generalize hn : xs.length = n at *
  have g : (n : Int) < 9 := by omega
  clear hn
  have HB := hid (two_blocks w (.cells nT 25) (.cells nT 25))
  have k0 := block_cell HB.out.1
  have f0 := block_frozen HB.out.1
  have k1 := block_cell HB.out.2.1
  go_enter Try.func29, Try.ntmps29
  go_wp2
  exact bodyPost_ret (v := .tuple #[.agg nT, .int .i64 40]) (by simp [results, Try.results29, go_sem]) rfl (.inr ⟨HD.out, rfl, HB.out.2.2⟩)
set_option maxRecDepth 100000 in
set_option maxHeartbeats 2000000 in
theorem rdec_head {v : Value} {xs : List UInt8} {w : World} (hv : BAt w v xs) (h9 : 9 ≤ xs.length) (h : ¬ numB (xs.take 4) = (xs.length : Int) - 8) : Calls Try.prog 29 #[v] w (RDPost xs w) := by
  have HD := hid (dec_no (xs := xs) (fun q => h q.2))
  have HV := hid hv
  obtain ⟨p, cap, rfl, hcap, hnone, hmax, -⟩ := hv
  unfold maxLen at hmax
  have HT := hid (BAt.take (k := 4) rfl (by omega) HV.out)
  generalize hn : xs.length = n at *
  have g : ¬ (n : Int) < 9 := by omega
  have g4 : 4 ≤ cap := by omega
  clear hn
  have HB := hid (two_blocks w (.cells nT 25) (.cells nT 25))
  have k0 := block_cell HB.out.1
  have f0 := block_frozen HB.out.1
  have k1 := block_cell HB.out.2.1
  generalize hnb : numB (xs.take 4) = nb at *
  have HNB := hid hnb
  clear hnb
  have hw8 : IntKind.i64.wrap ((n : Int) - 8) = (n : Int) - 8 := by rw [wrap_i64]; unfold wrap64; omega
  go_enter Try.func29, Try.ntmps29
  go_wp2_with (go_at_call 67; refine (rsmall_any (HT.out.on HB.out.2.2)).mono ?_; rintro e w1 ⟨rfl, rfl⟩; rw [HNB.out])
  exact bodyPost_ret (v := .tuple #[.agg nT, .int .i64 40]) (by simp [results, Try.results29, go_sem]) rfl (.inr ⟨HD.out, rfl, HB.out.2.2⟩)
theorem three_ds (w : World) : DS w (((w.alloc (.cells nT 25)).alloc (.cells nT 25)).alloc (.cells nT 25)) (.slice none 0 0) (.slice none 0 0) := by
  have h2 := two_blocks w (.cells nT 25) (.cells nT 25)
  have h3 := alloc_block ((w.alloc (.cells nT 25)).alloc (.cells nT 25)) (.cells nT 25)
  rw [World.size_alloc, World.size_alloc] at h3
  exact ⟨blk_up' h2.1 _, blk_up' h2.2.1 _, h3, h2.2.2.alloc h2.2.2.size _, by simp⟩
theorem mid_at {xs : List UInt8} {a : Addr} {n cap : Nat} {w : World} (hn : xs.length = n) (h9 : 9 ≤ n) (hc : n ≤ cap) (h : BAt w (.slice (some a) n cap) xs) : BAt w (.slice (some ⟨a.block, a.off + 4, none⟩) (n - 4 - 4) (cap - 4)) (mid xs) := by
  have h1 := BAt.take (k := n - 4) hn (by omega) h
  have h2 := BAt.drop (k := 4) (n := n - 4) (by simp; omega) (by omega) h1
  rw [if_neg (by omega)] at h2
  have e : (xs.take (n - 4)).drop 4 = mid xs := by
    unfold mid
    rw [List.drop_take, hn]
    congr 1
  rw [e] at h2
  have ea : (Option.map (fun x : Addr => x.add 4) (some a)) = some ⟨a.block, a.off + 4, none⟩ := by simp [Addr.add]
  rw [ea] at h2
  exact h2
theorem cells_mid {w : World} {ab ao N c : Nat} {X : List UInt8} (h : BAt w (.slice (some ⟨ab, ao, none⟩) N c) X) {x : World} (hb : Below w.heap.size w x) {j : Nat} {y : UInt8} (hj : X[j]? = some y) : x.cell? ⟨ab, ao + j, none⟩ = some (.int .u8 (y.toNat : Int)) := by
  obtain ⟨p, cap, hv, -, -, -, hx⟩ := h.on hb
  obtain ⟨a', ha, hc⟩ := hx (by intro e; subst e; simp at hj)
  cases hv
  cases ha
  have := hc j y hj
  rw [Addr.add_lit] at this
  exact this
abbrev CB (b o : Nat) (y : Int) (w : World) : Prop := w.cell? ⟨b, o, none⟩ = some (.int .u8 y)
theorem cBoxD {w : World} {b o : Nat} {y : Int} (h : CB b o y w) : CB b o y w.drew := h
theorem cBoxA {w : World} {b o : Nat} {y : Int} (h : CB b o y w) (x : Obj) : CB b o y (w.alloc x) := Lib.cell?_alloc_some _ h
theorem cBoxS {w : World} {b o T i : Nat} {y : Int} {u : Value} (h : CB b o y w) (hne : b ≠ T) : CB b o y (w.setCell ⟨T, i, none⟩ u) := (World.cell?_setCell_other w ⟨T, i, none⟩ ⟨b, o, none⟩ u (by intro e; injection e with e1; exact hne e1.symm)).trans h
theorem col_conv {w wr : World} {ab ao N c4 a : Nat} {X : List UInt8} {x : UInt8} (hN : X.length = N) (h : BAt w (.slice (some ⟨ab, ao, none⟩) N c4) X) (hb : Below w.heap.size w wr) (ha : a + 1 + x.toNat < N) (hc : N ≤ c4) :
    (convert 41 9 (.slice (some ⟨ab, ao + (a + 1), none⟩) x.toNat (c4 - (a + 1)))).run Try.prog wr = .ok (.string ⟨((X.drop (a + 1)).take x.toNat).toArray⟩) wr := by
  have h2 := BAt.drop (k := a + 1) (n := N) hN (by omega) h
  rw [if_neg (by omega)] at h2
  have ea : (Option.map (fun x : Addr => x.add (a + 1)) (some ⟨ab, ao, none⟩)) = some ⟨ab, ao + (a + 1), none⟩ := by simp [Addr.add]
  rw [ea] at h2
  have h3 := BAt.take (k := x.toNat) (by simp [hN]) (by omega) h2
  exact conv_bat (h3.on hb)
theorem DS.set0 {w wr : World} {cv rv : Value} (h : DS w wr cv rv) (v : Value) : DS w (wr.setCell ⟨w.heap.size + 1 + 1, 0, none⟩ v) v rv :=
  ⟨(Below.heap_setCell _ _ _ _ (show w.heap.size ≠ w.heap.size + 1 + 1 by omega)).trans h.res, (Below.heap_setCell _ _ _ _ (show w.heap.size + 1 ≠ w.heap.size + 1 + 1 by omega)).trans h.non, set_block h.tab _, h.low.setCell (by show w.heap.size ≤ w.heap.size + 1 + 1; omega) _, by rw [World.size_setCell]; exact h.sz⟩
theorem DS.set1 {w wr : World} {cv rv : Value} (h : DS w wr cv rv) (v : Value) : DS w (wr.setCell ⟨w.heap.size + 1 + 1, 1, none⟩ v) cv v :=
  ⟨(Below.heap_setCell _ _ _ _ (show w.heap.size ≠ w.heap.size + 1 + 1 by omega)).trans h.res, (Below.heap_setCell _ _ _ _ (show w.heap.size + 1 ≠ w.heap.size + 1 + 1 by omega)).trans h.non, set_block h.tab _, h.low.setCell (by show w.heap.size ≤ w.heap.size + 1 + 1; omega) _, by rw [World.size_setCell]; exact h.sz⟩
theorem own_set {α : Type} {enc : α → List Value} {k e B T i : Nat} {w : World} {v u : Value} {xs : List α} (h : Own enc k e B w v xs) (hT : T < B) : Own enc k e B (w.setCell ⟨T, i, none⟩ u) v xs := by
  refine ⟨h.1, h.2.elim Or.inl (fun ⟨g, cap, cur, hv, hg, hblk, q⟩ => Or.inr ⟨g, cap, cur, hv, hg, ?_, q⟩)⟩
  rw [Below.heap_setCell _ _ _ _ (show g ≠ T by omega)]
  exact hblk
theorem own_formL {α : Type} {enc : α → List Value} {k e B n : Nat} {w : World} {v : Value} {xs : List α} (h : Own enc k e B w v xs) (hn : xs.length = n) : ∃ p c, v = .slice p n c := by
  subst hn
  rcases h.2 with ⟨hv, h0⟩ | ⟨g, cap, cur, hv, hg, hblk, q⟩
  · exact ⟨none, 0, by rw [hv, h0]⟩
  · exact ⟨_, cap, hv⟩
theorem own_form {α : Type} {enc : α → List Value} {k e B : Nat} {w : World} {v : Value} {xs : List α} (h : Own enc k e B w v xs) : ∃ p c, v = .slice p xs.length c := by
  rcases h.2 with ⟨hv, h0⟩ | ⟨g, cap, cur, hv, hg, hblk, q⟩
  · exact ⟨none, 0, by rw [hv, h0]⟩
  · exact ⟨_, cap, hv⟩
theorem small1' {n : Nat} (h : n ≤ 4000000) : n * bsz 1 ≤ 140737488355328 := by
  have e : bsz 1 = 24 := rfl
  rw [e]; omega
theorem lowAD (w : World) (o : Obj) : Below w.heap.size w (w.alloc o).drew := ((Below.refl w.heap.size w).alloc (Nat.le_refl _) o).drew
theorem col_one {w : World} {c : Cl} : SlAt (fun b => b = w.heap.size) Cl.cells 2 (w.alloc (.cells #[.string c.nm, .int .i64 c.kd] 32)) (.slice (some ⟨w.heap.size, 0, none⟩) 1 1) [c] :=
  (lit_sl (xs := [c]) (alloc_block w _) cl_len rfl rfl (Nat.le_refl _) (by simp))
theorem col_add {w : World} {c : Cl} :
    Below w.heap.size w (w.alloc (.cells #[.string c.nm, .int .i64 c.kd] 32)) ∧ Below w.heap.size w (w.alloc (.cells #[.string c.nm, .int .i64 c.kd] 32)).drew ∧ Below w.heap.size w (w.drew.alloc (.cells #[.string c.nm, .int .i64 c.kd] 32)) ∧
    SlAt (fun b => b = w.heap.size) Cl.cells 2 (w.alloc (.cells #[.string c.nm, .int .i64 c.kd] 32)) (.slice (some ⟨w.heap.size, 0, none⟩) 1 1) [c] ∧ SlAt (fun b => b = w.heap.size) Cl.cells 2 (w.alloc (.cells #[.string c.nm, .int .i64 c.kd] 32)).drew (.slice (some ⟨w.heap.size, 0, none⟩) 1 1) [c] ∧ SlAt (fun b => b = w.heap.size) Cl.cells 2 (w.drew.alloc (.cells #[.string c.nm, .int .i64 c.kd] 32)) (.slice (some ⟨w.heap.size, 0, none⟩) 1 1) [c] :=
  ⟨(Below.refl w.heap.size w).alloc (Nat.le_refl _) _, lowAD w _, (Below.refl w.heap.size w).drew.alloc (Nat.le_refl _) _, col_one, (col_one (w := w)).on (Below.refl _ _).drew, col_one (w := w.drew)⟩
theorem step_call2 {ops : Array Oper} {o : Oper} {a : Act} {w : World} {K : Act → World → Prop} {Q : Exit → Act → World → Prop} {E : Prop} {f : FuncId} {v v2 : Value} (hgd : o.guard = none) (x y : Operand) (t t2 : TypeId)
    (ho : o.op = .call { callee := .value (.func f), args := #[x, y], argTypes := #[t, t2] }) (hx : a.eval x = v) (hy : a.eval y = v2) (hen : ∀ args w, (callFunc f args).run Try.prog w = .ok (.enter f args) w)
    (hc : Calls Try.prog f #[v, v2] w fun e w' => ∃ u, e = .returned u ∧ K (a.put o.dst u) w') : if Region.wanted o (yielded ops a.tmps) = true then Oper.wp Try.prog o a w K Q else E := by
  have hw : Region.wanted o (yielded ops a.tmps) = true := by simp [Region.wanted, hgd]
  rw [if_pos hw]
  unfold Oper.wp
  have hr : (execOp a.eval o).run Try.prog w = .ok (.enter f #[v, v2]) w := by
    simp [execOp, ho, resolve, invoke, hen, go_sem]
    rw [← hx, ← hy]
    cases x <;> cases y <;> simp [Act.eval]
  rw [hr, Oper.upon_enter]
  refine hc.mono ?_
  rintro e w' ⟨u, rfl, hk⟩
  exact hk
abbrev KC (T : Nat) (cv : Value) (b o : Nat) (kd : Int) (w : World) : Prop := w.cell? ⟨T, 0, none⟩ = some cv ∧ w.cell? ⟨b, o, none⟩ = some (.int .i64 kd)
theorem kcD {w : World} {T b o : Nat} {cv : Value} {kd : Int} (h : KC T cv b o kd w) : KC T cv b o kd w.drew := h
theorem kcA {w : World} {T b o : Nat} {cv : Value} {kd : Int} (h : KC T cv b o kd w) (x : Obj) : KC T cv b o kd (w.alloc x) := ⟨Lib.cell?_alloc_some _ h.1, Lib.cell?_alloc_some _ h.2⟩
theorem kcS {w : World} {T b o z i : Nat} {cv : Value} {kd : Int} {u : Value} (h : KC T cv b o kd w) (h1 : T ≠ z) (h2 : b ≠ z) : KC T cv b o kd (w.setCell ⟨z, i, none⟩ u) :=
  ⟨(World.cell?_setCell_other w ⟨z, i, none⟩ ⟨T, 0, none⟩ u (by intro e; injection e with e1; exact h1 e1.symm)).trans h.1, (World.cell?_setCell_other w ⟨z, i, none⟩ ⟨b, o, none⟩ u (by intro e; injection e with e1; exact h2 e1.symm)).trans h.2⟩
theorem seg_at {w : World} {ab ao N c4 a : Nat} {X : List UInt8} (hN : X.length = N) (h : BAt w (.slice (some ⟨ab, ao, none⟩) N c4) X) (ha : a ≤ N) :
    BAt w (.slice (if c4 = a then some ⟨ab, ao, none⟩ else some ⟨ab, ao + a, none⟩) (min N (a + 66) - a) (c4 - a)) ((X.drop a).take 66) := by
  have h2 := BAt.drop (k := a) (n := N) hN ha h
  rw [Option.map_some, Addr.add_lit] at h2
  have h3 := BAt.take (k := min N (a + 66) - a) (by simp [hN]) (by omega) h2
  have e : (X.drop a).take (min N (a + 66) - a) = (X.drop a).take 66 := by
    by_cases h : a + 66 ≤ N
    · congr 1; omega
    · rw [List.take_of_length_le (by simp; omega), List.take_of_length_le (by simp; omega)]
  rw [e] at h3
  exact h3
theorem met2 {wr w5 : World} {z : Nat} {x : Vl} (hz : w5.heap[z]? = some (.cells zc 44)) (hS : Below wr.heap.size wr w5) (h2 : wr.heap.size ≤ z) :
    (put11 w5 z x.k x.n x.s x.h0 x.h1 x.h2 x.h3 x.h4 x.h5 x.h6 x.h7).heap[z]? = some (.cells (vcl x) 44) ∧ Below wr.heap.size wr (put11 w5 z x.k x.n x.s x.h0 x.h1 x.h2 x.h3 x.h4 x.h5 x.h6 x.h7) :=
  ⟨put11_over _ _ _ _ _ _ _ _ _ _ _ hz, hS.trans ((put11_rd w5 z x.k x.n x.s x.h0 x.h1 x.h2 x.h3 x.h4 x.h5 x.h6 x.h7).below h2 hS.size)⟩
theorem small11 {n : Nat} (h : n ≤ 4000000) : n * bsz 11 ≤ 140737488355328 := by unfold bsz; simp; omega
theorem own_keep {α : Type} {enc : α → List Value} {k e B B' : Nat} {w w' : World} {v rv : Value} {xs : List α} {hs : List Value} (h : Own enc k e B w v xs) (he : e ≠ 65) (hr : Own one 1 65 B' w rv hs) (hg : w.grownBy w' rv.ownBlock) : Own enc k e B w' v xs := by
  refine ⟨h.1, h.2.elim Or.inl (fun ⟨g, cap, cur, hv, hb, hblk, q⟩ => Or.inr ⟨g, cap, cur, hv, hb, ?_, q⟩)⟩
  refine (hg.block g (lt_of_block hblk) (fun e' => ?_)).trans hblk
  obtain ⟨c, fz, hc⟩ := Lib.ownsRow_kind hr g e'.symm
  rw [hblk] at hc
  cases hc
  exact he rfl
theorem own_row {B B' : Nat} {w : World} {v : Value} {dv : Rw} (h : Own Vl.cells 11 44 B' w v dv) (hB : B ≤ B') (hl : List.length dv ≤ 4000000) : RowIn (ty48 B w) w v dv := by
  obtain ⟨p, cap, hv, hc, hm, hx⟩ := Own.sl h vl_len (small11 hl)
  refine ⟨p, cap, hv, hc, hm, fun hn => ?_⟩
  obtain ⟨b, o, hp, hQ, hj⟩ := hx hn
  obtain ⟨c, fz, hk⟩ := Lib.ownsRow_kind h b (by rw [hv, hp]; rfl)
  exact ⟨b, o, hp, ⟨⟨Nat.le_trans hB hQ.1, c, fz, hk⟩, hQ.2⟩, hj⟩
theorem val_one {w : World} {x : Vl} : SlAt (fun b => b = w.heap.size) Vl.cells 11 (w.alloc (.cells (vcl x) 44)) (.slice (some ⟨w.heap.size, 0, none⟩) 1 1) [x] :=
  (lit_sl (xs := [x]) (alloc_block w _) vl_len rfl rfl (Nat.le_refl _) (by simp))
theorem head_one {w : World} {x : Value} : SlAt (fun b => b = w.heap.size) one 1 (w.alloc (.cells #[x] 65)) (.slice (some ⟨w.heap.size, 0, none⟩) 1 1) [x] :=
  (lit_sl (xs := [x]) (alloc_block w _) one_len rfl rfl (Nat.le_refl _) (by simp))
/- One row more. -/
theorem row_put {w w0 wr w1 : World} {cv rv v' hd : Value} {dn : List Cl} {hs : List Value} {rs : List Rw} {dv : Rw} (HS : DS w w0 cv rv) (HO : Own Cl.cells 2 32 (w.heap.size + 3) w0 cv dn) (HOR : Own one 1 65 (w.heap.size + 3) w0 rv hs) (HH : HeadsIn (ty48 (w.heap.size + 3) w0) w0 hs rs)
    (HBI : Below w0.heap.size w0 wr) (HOV : Own Vl.cells 11 44 w0.heap.size wr hd dv) (hl : List.length dv ≤ 4000000) (hown : Own one 1 65 (w.heap.size + 3) w1 v' (hs ++ [hd])) (hb : Below (w.heap.size + 3) (wr.alloc (.cells #[hd] 65)) w1) (hg : (wr.alloc (.cells #[hd] 65)).grownBy w1 rv.ownBlock) :
    DS w (w1.setCell ⟨w.heap.size + 1 + 1, 1, none⟩ v') cv v' ∧ Own Cl.cells 2 32 (w.heap.size + 3) (w1.setCell ⟨w.heap.size + 1 + 1, 1, none⟩ v') cv dn ∧ Own one 1 65 (w.heap.size + 3) (w1.setCell ⟨w.heap.size + 1 + 1, 1, none⟩ v') v' (hs ++ [hd]) ∧ HeadsIn (ty48 (w.heap.size + 3) (w1.setCell ⟨w.heap.size + 1 + 1, 1, none⟩ v')) (w1.setCell ⟨w.heap.size + 1 + 1, 1, none⟩ v') (hs ++ [hd]) (rs ++ [dv]) := by
  have A : Below w0.heap.size w0 (wr.alloc (.cells #[hd] 65)) := HBI.alloc HBI.size _
  have D1 : DS w w1 cv rv := (HS.on (A.mono HS.sz)).on hb
  have hr0 := HOR.on A
  have hne : ∀ b, ty48 (w.heap.size + 3) w1 b → b ≠ w.heap.size + 1 + 1 := fun b hb' e => by have := hb'.1; omega
  have h1 := heads_grown (heads_ty_on HH A) hg (fun b hb' => own_ne hr0 hb')
  have ro := own_row (B := w.heap.size + 3) HOV HS.sz hl
  have r0 : RowIn (ty48 (w.heap.size + 3) (wr.alloc (.cells #[hd] 65))) (wr.alloc (.cells #[hd] 65)) hd dv := (RowIn.on ro ((Below.refl _ wr).alloc (Nat.le_refl _) _)).imp (fun b hb' => ty_on hb' ((Below.refl _ wr).alloc (Nat.le_refl _) _))
  have r1 := row_grown r0 hg (fun b hb' => own_ne hr0 hb')
  refine ⟨D1.set1 v', own_set (own_keep (HO.on A) (by decide) hr0 hg) (by omega), own_set hown (by omega), ((h1.snocR r1).set hne).imp (fun b hb' => ?_)⟩
  have hn := hne b hb'
  obtain ⟨hB, c, fz, hc⟩ := hb'
  exact ⟨hB, c, fz, (Below.heap_setCell _ _ _ _ (show b ≠ w.heap.size + 1 + 1 from hn)).trans hc⟩
set_option maxRecDepth 100000 in
set_option maxHeartbeats 16000000 in
theorem rdec_long {v : Value} {xs : List UInt8} {w : World} (hv : BAt w v xs) (hl : xs.length ≤ 140737488351232) (h9 : 9 ≤ xs.length) (h : numB (xs.take 4) = (xs.length : Int) - 8) : Calls Try.prog 29 #[v] w (RDPost xs w) := by
  have HV := hid hv
  obtain ⟨p, cap, rfl, hcap, hnone, hmax, hx⟩ := hv
  obtain ⟨a, rfl, -⟩ := hx (by intro e; subst e; simp at h9)
  clear hx hnone
  unfold maxLen at hmax
  have HT := hid (BAt.take (k := 4) rfl (by omega) HV.out)
  have hm := mid_at rfl h9 hcap HV.out
  have hml := mid_len (xs := xs) (by omega)
  obtain ⟨X, hX⟩ : ∃ X, mid xs = X := ⟨_, rfl⟩
  rw [hX] at hm hml
  have HMX := hid hX
  have HX := hid hm
  clear hm hX
  generalize hn : xs.length = n at *
  have HN := hid hn
  have g : ¬ (n : Int) < 9 := by omega
  have g4 : 4 ≤ cap := by omega
  clear hn
  have HB := hid (two_blocks w (.cells nT 25) (.cells nT 25))
  have HDS := hid (three_ds w)
  have k0 := block_cell HB.out.1
  have f0 := block_frozen HB.out.1
  have k1 := block_cell HB.out.2.1
  generalize hnb : numB (xs.take 4) = nb at *
  have HNB := hid hnb
  clear hnb
  have hw8 : IntKind.i64.wrap ((n : Int) - 8) = (n : Int) - 8 := by rw [wrap_i64]; unfold wrap64; omega
  go_enter Try.func29, Try.ntmps29
  go_wp2_with (go_at_call 67; refine (rsmall_any (HT.out.on HB.out.2.2)).mono ?_; rintro e w1 ⟨rfl, rfl⟩; rw [HNB.out])
  clear k0 f0 k1 hw8 HB HT HNB
  obtain ⟨N, hN⟩ : ∃ N, n - 4 - 4 = N := ⟨_, rfl⟩
  obtain ⟨c4, hc4⟩ : ∃ c, cap - 4 = c := ⟨_, rfl⟩
  obtain ⟨ao, hao⟩ : ∃ o, a.off + 4 = o := ⟨_, rfl⟩
  obtain ⟨ab, hab⟩ : ∃ o, a.block = o := ⟨_, rfl⟩
  rw [hN, hc4, hao, hab] at HX ⊢
  have hXN : X.length = N := by omega
  have hN1 : 1 ≤ N := by omega
  have hNc : N ≤ c4 := by omega
  have HNc4 := hid (show N < c4 by omega)
  have hNm : N ≤ 140737488351232 := by omega
  have hcm : c4 ≤ 2 ^ 63 - 1 := by omega
  clear hc4 hao hab hN h hml
  obtain ⟨c0, r0, rfl⟩ : ∃ c0 r0, X = c0 :: r0 := by
    cases X with
    | nil => simp at hXN; omega
    | cons c r => exact ⟨c, r, rfl⟩
  have HR1 := hid (R1.start HMX.out rfl)
  have HC0 : Hid (∀ x, Below w.heap.size w x → x.cell? ⟨ab, ao, none⟩ = some (.int .u8 (c0.toNat : Int))) := fun x hb => by
    have := cells_mid HX.out hb (j := 0) rfl
    simpa using this
  have hm256 := c0.toNat_lt
  generalize hm : c0.toNat = m at *
  clear hm
  generalize c0 :: r0 = X at *
  have HXN := hid hXN
  clear hXN
  generalize (((w.alloc (.cells nT 25)).alloc (.cells nT 25)).alloc (.cells nT 25)) = W0 at *
  go_loopw [7, 8] (fun at_ i wr => ∃ (k a : Nat) (pc : Option Addr) (cc : Nat) (dn : List Cl), k ≤ m ∧ 1 ≤ a ∧ a ≤ N ∧ at_ = .int .i64 a ∧ i = .int .i64 k ∧ Hid (DS w wr (.slice pc k cc) (.slice none 0 0)) ∧ Hid (Own Cl.cells 2 32 (w.heap.size + 3) wr (.slice pc k cc) dn) ∧ Hid (dn.length = k) ∧ Hid (R1 xs X m k a dn)) (fun _ i _ => m - (intOf i).toNat)
  case atStart => exact ⟨0, 1, none, 0, [], by omega, by omega, by omega, rfl, rfl, HDS.out, Own.nil _ _ _ _ _, rfl, HR1.out⟩
  case round =>
    obtain ⟨k, a, pc, cc, dn, hk, ha1, haN, rfl, rfl, HS, HO, HL, HR⟩ := hrel
    have c0 := HC0.out _ HS.out.low
    have hmw : IntKind.i64.wrap (m : Int) = (m : Int) := by rw [wrap_i64]; unfold wrap64; omega
    have k0 := block_cell HS.out.res
    have f0 := block_frozen HS.out.res
    have k1 := block_cell HS.out.non
    by_cases hlt : k < m
    · by_cases hge : N ≤ a
      · have HD := hid (HR.out.dead hlt (colP_end (by rw [HXN.out]; exact hge)))
        go_wp2_with fail
        have hst := stored2R (c' := .slice none 0 0) (r' := .slice none 0 0) HS.out.res HS.out.low
        clear k0 f0 k1
        generalize World.setCell _ _ _ = WF at *
        obtain ⟨hk, hb⟩ := hst
        have kf := block_cell hk
        exact bodyPost_ret (v := .tuple #[.agg nT, .int .i64 40]) (by simp [results, Try.results29, go_sem, kf]) rfl (.inr ⟨HD.out, rfl, hb⟩)
      · obtain ⟨x, hx⟩ : ∃ x, X[a]? = some x := ⟨_, List.getElem?_eq_getElem (by rw [HXN.out]; omega)⟩
        have ca := cells_mid HX.out HS.out.low hx
        have HXA := hid hx
        have hx256 := x.toNat_lt
        generalize hxn : x.toNat = xn at *
        have HXV := hid hxn
        have hxw : IntKind.i64.wrap (xn : Int) = (xn : Int) := by rw [wrap_i64]; unfold wrap64; omega
        by_cases hge2 : N ≤ a + 1 + xn
        · have HD := hid (HR.out.dead hlt (colP_short hx (by rw [HXN.out, hxn]; exact hge2)))
          clear hx hxn
          go_wp2_with fail
          have hst := stored2R (c' := .slice none 0 0) (r' := .slice none 0 0) HS.out.res HS.out.low
          clear k0 f0 k1
          generalize World.setCell _ _ _ = WF at *
          obtain ⟨hk, hb⟩ := hst
          have kf := block_cell hk
          exact bodyPost_ret (v := .tuple #[.agg nT, .int .i64 40]) (by simp [results, Try.results29, go_sem, kf]) rfl (.inr ⟨HD.out, rfl, hb⟩)
        · obtain ⟨y, hy⟩ : ∃ y, X[a + 1 + xn]? = some y := ⟨_, List.getElem?_eq_getElem (by rw [HXN.out]; omega)⟩
          have HR' := hid (HR.out.step hlt hx (by rw [hxn]; exact hy))
          have HCV := hid (fun (wr : World) (hb : Below w.heap.size w wr) => col_conv (x := x) (a := a) HXN.out HX.out hb (by omega) hNc)
          rw [hxn] at HR' HCV
          obtain ⟨c, hc⟩ : ∃ c, mkCol (X.drop (a + 1)) x y = c := ⟨_, rfl⟩
          have hcn : c.nm = ⟨((X.drop (a + 1)).take xn).toArray⟩ := by rw [← hc]; show (⟨((X.drop (a + 1)).take x.toNat).toArray⟩ : ByteArray) = _; rw [hxn]
          have hck : c.kd = (y.toNat : Int) := by rw [← hc]
          rw [hc] at HR'
          rw [← hcn] at HCV
          have hy256 := y.toNat_lt
          have cy := cells_mid HX.out HS.out.low hy
          rw [← hck] at cy
          have hyw : IntKind.i64.wrap c.kd = c.kd := by rw [wrap_i64, hck]; unfold wrap64; omega
          obtain ⟨s1, hs1⟩ : ∃ s, a + 1 = s := ⟨_, rfl⟩
          obtain ⟨s2, hs2⟩ : ∃ s, s1 + xn = s := ⟨_, rfl⟩
          have hi1 : (a : Int) + 1 = (s1 : Int) := by omega
          have hi2 : (s1 : Int) + (xn : Int) = (s2 : Int) := by omega
          have hxs : xn = s2 - s1 := by omega
          rw [hs1, hs2] at cy
          rw [hs1, hxs] at HCV
          have h12 : s1 ≤ s2 := by omega
          have h2c : s2 ≤ c4 := by omega
          have h2N : s2 < N := by omega
          have h1N : s1 < c4 := by omega
          have w1 : IntKind.i64.wrap ((a : Int) + 1) = (s1 : Int) := by rw [wrap_i64]; unfold wrap64; omega
          have w2 : IntKind.i64.wrap ((s1 : Int) + (xn : Int)) = (s2 : Int) := by rw [wrap_i64]; unfold wrap64; omega
          have w3 : IntKind.i64.wrap (s1 : Int) = (s1 : Int) := by rw [wrap_i64]; unfold wrap64; omega
          have w4 : IntKind.i64.wrap (s2 : Int) = (s2 : Int) := by rw [wrap_i64]; unfold wrap64; omega
          have b1 : (0 : Int) ≤ (s1 : Int) := by omega
          have b2 : (s1 : Int) ≤ (s2 : Int) := by omega
          have b3 : (s2 : Int) ≤ (c4 : Int) := by omega
          have b4 : (0 : Int) ≤ (s2 : Int) := by omega
          have b5 : (s2 : Int) < (N : Int) := by omega
          have hcs1 : ¬ c4 = s1 := by omega
          have hcs2 : ¬ c4 - s1 = 0 := by omega
          have hcs3 : ¬ c4 ≤ s1 := by omega
          have hcs4 : ¬ s1 = c4 := by omega
          have hcv := HCV.out wr HS.out.low
          have hcvD := HCV.out wr.drew HS.out.low.drew
          have HAN := hid (show a + xn + 2 ≤ N by omega)
          have HCYS := hid (fun (x : World) (hb : Below w.heap.size w x) => cells_mid HX.out hb hy)
          rw [← hck, hs1, hs2] at HCYS
          clear hx hxn hy hc hcn hck hs1 hs2 HCV hxs
          go_wp2_with fail
          clear k0 f0 k1 c0 ca
          have HCB : Hid (∀ x, Below (w.heap.size + 3) wr x → CB ab (ao + s2) c.kd x ∧ DS w x (.slice pc k cc) (.slice none 0 0)) := fun x hb => by
            have hd := HS.out.on hb
            exact ⟨HCYS.out x hd.low, hd⟩
          have hSz : w.heap.size + 3 ≤ wr.heap.size := HS.out.sz
          have HOD : Hid (Own Cl.cells 2 32 (w.heap.size + 3) wr.drew (.slice pc k cc) dn) := HO.out
          have kt1 := block_cell HS.out.tab
          have kt2 : ∀ o, wr.drew.cell? ⟨w.heap.size + 1 + 1, o, none⟩ = (#[.slice pc k cc, .slice none 0 0] : Array Value)[o]? := fun o => block_cell HS.out.tab o
          have kt3 : ∀ (A : Obj) (o : Nat), (wr.alloc A).cell? ⟨w.heap.size + 1 + 1, o, none⟩ = (#[.slice pc k cc, .slice none 0 0] : Array Value)[o]? := fun A o => block_cell (blk_up' HS.out.tab A) o
          have cyD : wr.drew.cell? ⟨ab, ao + s2, none⟩ = some (.int .u8 c.kd) := cy
          have HC1 := hid (col_add (w := wr) (c := c))
          go_region_law (refine step_appC elem45 cl_len (fun x _ => cl_cells x) rfl (.tmp 72) (.tmp 91) rfl (by simp [Act.eval]; try rfl) (by simp [Act.eval]; try rfl) (HO.out.on (by first | exact HC1.out.1 | exact HC1.out.2.1 | exact HC1.out.2.2.1)) (by first | exact HC1.out.2.2.2.1 | exact HC1.out.2.2.2.2.1 | exact HC1.out.2.2.2.2.2) (small2 (by rw [HL.out]; simp; omega)) (Nat.le_trans hSz (by first | exact HC1.out.1.size | exact HC1.out.2.1.size | exact HC1.out.2.2.1.size)) ?_; intro v3 w3 hown3 hb3 _; obtain ⟨p3, c3, rfl⟩ := own_formL (n := k + 1) hown3 (by rw [List.length_append, HL.out]; rfl); have HO3 := hid hown3; have S3 := hid (Below.trans (Below.mono (by first | exact HC1.out.1 | exact HC1.out.2.1 | exact HC1.out.2.2.1) hSz) hb3); have fz := block_frozen (HCB.out w3 S3.out).2.tab; have kt4 := block_cell (HCB.out w3 S3.out).2.tab; clear hown3 hb3)
          all_goals
            go_wp2_with fail
            go_roundw
            case rel => exact ⟨k + 1, a + xn + 2, p3, c3, dn ++ [c], by omega, by omega, HAN.out, by go_num, by go_num, (HCB.out w3 S3.out).2.set0 _, own_set HO3.out (by omega), by show _ = _; rw [List.length_append, HL.out]; rfl, HR'.out⟩
            case measure => simp [intOf]; omega
    · have hkm : k = m := by omega
      subst hkm
      have HCO := hid ((Own.sl HO.out cl_len (small2 (by rw [HL.out]; omega))).imp (Q' := any) (fun _ _ => trivial))
      have kt := block_cell HS.out.tab
      by_cases hge : N < a + 2
      · have HD := hid (HR.out.dead2 (.inl (by rw [HXN.out]; exact hge)))
        go_wp2_with fail
        have hst := stored2R (c' := .slice none 0 0) (r' := .slice none 0 0) HS.out.res HS.out.low
        clear k0 f0 k1
        generalize World.setCell _ _ _ = WF at *
        obtain ⟨hk, hb⟩ := hst
        have kf := block_cell hk
        exact bodyPost_ret (v := .tuple #[.agg nT, .int .i64 40]) (by simp [results, Try.results29, go_sem, kf]) rfl (.inr ⟨HD.out, rfl, hb⟩)
      · by_cases hcb : colsB dn = false
        · have HD := hid (HR.out.dead2 (.inr hcb))
          go_wp2_with (go_at_call 49; refine (rcols_any HCO.out).mono ?_; rintro e w1 ⟨rfl, hb1⟩; rw [hcb]; have HS1 := hid (HS.out.on (hb1.mono HS.out.sz)); have k0 := block_cell HS1.out.res; have f0 := block_frozen HS1.out.res; have k1 := block_cell HS1.out.non)
          have hst := stored2R (c' := .slice none 0 0) (r' := .slice none 0 0) HS1.out.res HS1.out.low
          clear k0 f0 k1
          generalize World.setCell _ _ _ = WF at *
          obtain ⟨hk, hb⟩ := hst
          have kf := block_cell hk
          exact bodyPost_ret (v := .tuple #[.agg nT, .int .i64 40]) (by simp [results, Try.results29, go_sem, kf]) rfl (.inr ⟨HD.out, rfl, hb⟩)
        · have hct : colsB dn = true := by simpa using hcb
          have h2 := BAt.drop (k := a) (n := N) HXN.out haN HX.out
          rw [if_neg (by omega)] at h2
          have h3 := BAt.take (k := 2) (by simp [HXN.out]) (by omega) h2
          have ea : (Option.map (fun x : Addr => x.add a) (some ⟨ab, ao, none⟩)) = some ⟨ab, ao + a, none⟩ := by rw [Option.map_some, Addr.add_lit]
          rw [ea] at h3
          have HX2 := hid h3
          have hr0 := numB_range (xs := (X.drop a).take 2) (by simp; omega)
          have hl2 : ((X.drop a).take 2).length = 2 := by simp [HXN.out]; omega
          rw [hl2] at hr0
          have hr1 : 0 ≤ numB ((X.drop a).take 2) ∧ numB ((X.drop a).take 2) < 65536 := hr0
          obtain ⟨rn, hrn⟩ : ∃ rn : Nat, numB ((X.drop a).take 2) = (rn : Int) := ⟨(numB ((X.drop a).take 2)).toNat, by omega⟩
          have hrn' : rn < 65536 := by omega
          have HR2 := hid (HR.out.rows hrn)
          have HRN := hid hrn
          obtain ⟨a2, ha2⟩ : ∃ a2, a + 2 = a2 := ⟨_, rfl⟩
          have hi2 : (a : Int) + 2 = (a2 : Int) := by omega
          have b1 : (0 : Int) ≤ (a : Int) := by omega
          have b2 : (a : Int) ≤ (a2 : Int) := by omega
          have b3 : (a2 : Int) ≤ (c4 : Int) := by omega
          have b5 : ¬ (N : Int) < (a2 : Int) := by omega
          have b6 : ¬ c4 = a := by omega
          have b7 : a2 - a = 2 := by omega
          rw [ha2] at HR2
          have HA2 := hid (show a2 ≤ N by omega)
          clear h2 h3 ea hr0 hl2 hr1 hrn ha2 k0 f0 k1
          go_wp2_with (first
            | (go_at_call 49; refine (rcols_any HCO.out).mono ?_; rintro e w1 ⟨rfl, hb1⟩; rw [hct]; have HS1 := hid (HS.out.on (hb1.mono HS.out.sz)); have HO1 := hid (HO.out.on hb1); clear hb1)
            | (go_at_call 67; refine (rsmall_any (HX2.out.on HS1.out.low)).mono ?_; rintro e w2 ⟨rfl, rfl⟩; rw [HRN.out]))
          clear c0 kt
          go_loopw [7, 11] (fun at_ i wr => ∃ (j a : Nat) (pr : Option Addr) (cr : Nat) (hs : List Value) (rs : List Rw), j ≤ rn ∧ a ≤ N ∧ at_ = .int .i64 a ∧ i = .int .i64 j ∧ Hid (DS w wr (.slice pc k cc) (.slice pr j cr)) ∧ Hid (Own Cl.cells 2 32 (w.heap.size + 3) wr (.slice pc k cc) dn) ∧ Hid (Own one 1 65 (w.heap.size + 3) wr (.slice pr j cr) hs) ∧ Hid (hs.length = j) ∧ Hid (HeadsIn (ty48 (w.heap.size + 3) wr) wr hs rs) ∧ Hid (RngT rs) ∧ Hid (R2 xs X dn rn j a rs)) (fun _ i _ => rn - (intOf i).toNat)
          case atStart => exact ⟨0, a2, none, 0, [], [], by omega, HA2.out, rfl, rfl, HS1.out, HO1.out, Own.nil _ _ _ _ _, rfl, ⟨rfl, fun j x r h1 _ => by simp at h1⟩, (fun q hq => by cases hq), HR2.out⟩
          case round =>
            clear HS1 HO1 HS HO HR2 HR HCO HRN HX2 hi2 b1 b2 b3 b5 b6 b7
            obtain ⟨j, a3, pr, cr, hs, rs, hj, ha3, rfl, rfl, HS, HO, HOR, HHL, HH, HRG, HR⟩ := hrel
            have kt := block_cell HS.out.tab
            by_cases hlt : j < rn
            · have HR3 := hid (HR.out.row hlt)
              obtain ⟨w0, rfl⟩ : ∃ x, x = wr := ⟨_, rfl⟩
              go_wp2_with fail
              go_loopw [7, 12, 13] (fun at_ row i w3 => ∃ (q a' : Nat) (pv : Option Addr) (cv : Nat) (dv : Rw), q ≤ k ∧ a' ≤ N ∧ at_ = .int .i64 a' ∧ row = .slice pv q cv ∧ i = .int .i64 q ∧ Hid (Below w0.heap.size w0 w3) ∧ Hid (Own Vl.cells 11 44 w0.heap.size w3 (.slice pv q cv) dv) ∧ Hid (List.length dv = q) ∧ Hid (RngR dv) ∧ Hid (R3 xs X dn rn j q a' rs dv)) (fun _ _ i _ => k - (intOf i).toNat)
              case atStart => exact ⟨0, a3, none, 0, [], by omega, ha3, rfl, rfl, rfl, Below.refl _ _, Own.nil _ _ _ _ _, rfl, (fun x hx => by cases hx), HR3.out⟩
              case round =>
                clear HR3 kt
                obtain ⟨q, a', pv, cv, dv, hq, ha', rfl, rfl, rfl, HBI, HOV, HVL, HVR, HR3⟩ := hrel
                have HSI := hid (HS.out.on (HBI.out.mono HS.out.sz))
                have kt := block_cell HSI.out.tab
                by_cases hqk : q < k
                · have hqd : q < dn.length := by rw [HL.out]; exact hqk
                  obtain ⟨p5, c5, e5, -, -, hx5⟩ := Own.sl HO.out cl_len (small2 (by rw [HL.out]; omega))
                  obtain ⟨b, o, hp5, -, hcell⟩ := hx5 (by intro e; subst e; simp at hqd)
                  have hp6 : pc = p5 := by injection e5
                  subst hp6
                  subst hp5
                  clear e5
                  have HKD : Hid (∀ x, Below w0.heap.size w0 x → x.cell? ⟨b, o + q * 2 + 1, none⟩ = some (.int .i64 dn[q]!.kd)) := fun x hx => ((hcell q _ (get!_some hqd)).on hx) 1 _ rfl
                  clear hx5 hcell
                  have eg : ∀ args w, (callFunc 24 args).run Try.prog w = .ok (.enter 24 args) w := enters_of Try.func24 (by kernel_rfl) rfl
                  have HEG := hid eg
                  clear eg
                  obtain ⟨kd, hkd⟩ : ∃ d, dn[q]!.kd = d := ⟨_, rfl⟩
                  obtain ⟨Y, hY⟩ : ∃ Y, (X.drop a').take 66 = Y := ⟨_, rfl⟩
                  have HYA := hid (seg_at HXN.out HX.out ha')
                  rw [hY] at HYA
                  rw [hkd] at HKD
                  have HYL : Hid (Y.length ≤ 140737488351232) := by show _ ≤ _; rw [← hY]; simp; omega
                  have HYN : Hid (Y.length = min N (a' + 66) - a') := by show _ = _; rw [← hY]; simp [HXN.out]; omega
                  have HDead := hid (fun h => HR3.out.dead hqd (by rw [hkd, hY]; exact h))
                  have HStep := hid (fun h => HR3.out.step hqd (by rw [hkd, hY]; exact h))
                  rw [hkd, hY] at HStep
                  have HBack := hid (fun (h : tkZ kd Y = 0) => (take66_back (k := kd) (Z := X.drop a') (by rw [hY]; exact tkZ_some h)).2)
                  rw [hY] at HBack
                  have HTake := hid (fun (v : Value) (W : World) (hv : BAt W v Y) => rtake_all (k := kd) hv HYL.out)
                  obtain ⟨y, hy⟩ : ∃ y, tkV kd Y = y := ⟨_, rfl⟩
                  obtain ⟨yl, hyl⟩ : ∃ y, tkL kd Y = y := ⟨_, rfl⟩
                  obtain ⟨z, hz⟩ : ∃ y, tkZ kd Y = y := ⟨_, rfl⟩
                  rw [hy, hyl, hz] at HTake
                  rw [hy, hyl] at HStep HBack
                  rw [hz] at HStep HDead HBack
                  clear hkd hY hy hyl hz
                  obtain ⟨t_, ht⟩ : ∃ t, min N (a' + 66) = t := ⟨_, rfl⟩
                  rw [ht] at HYA HYN
                  have hmin : min (N : Int) ((a' : Int) + 66) = (t_ : Int) := by omega
                  have tq1 : (0 : Int) ≤ (a' : Int) := by omega
                  have tq2 : (a' : Int) ≤ (t_ : Int) := by omega
                  have tq3 : (t_ : Int) ≤ (c4 : Int) := by omega
                  have tq4 : (q : Int) < (k : Int) := by omega
                  have tq5 : (0 : Int) ≤ (q : Int) := by omega
                  have HTN := hid (show t_ ≤ N by omega)
                  have HTA := hid (show a' ≤ t_ by omega)
                  clear ht
                  have HLO := hid (HSI.out.low)
                  have hTl : w.heap.size + 1 + 1 < wr.heap.size := by have := HSI.out.sz; omega
                  have hbl : b < wr.heap.size := block_lt_of_cell (HKD.out _ HBI.out)
                  have hS0 : KC (w.heap.size + 1 + 1) (.slice (some ⟨b, o, none⟩) k cc) b (o + q * 2 + 1) kd wr := ⟨block_cell HSI.out.tab 0, HKD.out _ HBI.out⟩
                  have HKK : Hid (∀ x, Below wr.heap.size wr x → KC (w.heap.size + 1 + 1) (.slice (some ⟨b, o, none⟩) k cc) b (o + q * 2 + 1) kd x) := fun x hx => ⟨cell_on hS0.1 hx, cell_on hS0.2 hx⟩
                  have hca : ¬ c4 = a' := by have := HNc4.out; omega
                  clear kt HSI
                  rw [if_neg hca] at HYA
                  have hca2 : ¬ c4 - a' = 0 := by omega
                  have kt := hS0.1
                  go_wp2_with fail
                  clear kt
                  go_cut [15, 16, 17] from 123 to 160 (fun s r e wx => ∃ bz p5 c5, s = .pointer (some ⟨bz, 0, none⟩) ∧ r = .slice p5 yl.length c5 ∧ e = .int .i64 z ∧ Hid (wx.heap[bz]? = some (.cells (vcl y) 44)) ∧ Hid (Below wr.heap.size wr wx))
                  case first =>
                    go_region_held3 (KC (w.heap.size + 1 + 1) (.slice (some ⟨b, o, none⟩) k cc) b (o + q * 2 + 1) kd) (((repeat (first | (with_reducible refine kcD ?_) | (with_reducible refine kcA ?_ _) | (with_reducible refine kcS ?_ (by omega) (by omega)))); (with_reducible assumption)))
                      (first
                      | (have FIRST := HTake; refine step_call2 (v := .slice (some ⟨ab, ao + a', none⟩) (t_ - a') (c4 - a')) (v2 := .int .i64 kd) rfl (.tmp 139) (.tmp 145) 41 3 rfl (by simp [Act.eval]) (by simp [Act.eval]) HEG.out ?_; refine (HTake.out _ (wr.drew) (HYA.out.on (below_on HLO.out (Below.refl _ _).drew))).mono ?_; rintro e w5 ⟨p5, c5, rfl, ho5, hb5⟩; refine ⟨_, rfl, ?_⟩; have S5 := hid (((Below.refl _ wr).drew).trans hb5); have hS5 := HKK.out _ S5.out; have KZ : Hid True := trivial; clear ho5 hb5 hS0 FIRST HTake)
                      | (have FIRST := HTake; refine step_call2 (v := .slice (some ⟨ab, ao + a', none⟩) (t_ - a') (c4 - a')) (v2 := .int .i64 kd) rfl (.tmp 139) (.tmp 145) 41 3 rfl (by simp [Act.eval]) (by simp [Act.eval]) HEG.out ?_; refine (HTake.out _ ((wr.alloc (.cells zc 44)).drew) (HYA.out.on (below_on HLO.out (lowAD wr _)))).mono ?_; rintro e w5 ⟨p5, c5, rfl, ho5, hb5⟩; refine ⟨_, rfl, ?_⟩; have S5 := hid ((lowAD wr (.cells zc 44)).trans (hb5.mono (lowAD wr (.cells zc 44)).size)); have hS5 := HKK.out _ S5.out; have KZ := hid (block_on (show (wr.alloc (.cells zc 44)).drew.heap[wr.heap.size]? = _ from alloc_block wr (.cells zc 44)) hb5); have kz := block_cell KZ.out; have fz := block_frozen KZ.out; clear ho5 hb5 hS0 FIRST HTake)
                      | (have FIRST := HTake; refine step_call2 (v := .slice (some ⟨ab, ao + a', none⟩) (t_ - a') (c4 - a')) (v2 := .int .i64 kd) rfl (.tmp 139) (.tmp 145) 41 3 rfl (by simp [Act.eval]) (by simp [Act.eval]) HEG.out ?_; refine (HTake.out _ (wr.drew.alloc (.cells zc 44)) (HYA.out.on (below_on HLO.out ((Below.refl _ wr).drew.alloc (Nat.le_refl _) _)))).mono ?_; rintro e w5 ⟨p5, c5, rfl, ho5, hb5⟩; refine ⟨_, rfl, ?_⟩; have SA := (Below.refl _ wr).drew.alloc (Nat.le_refl _) (.cells zc 44); have S5 := hid (SA.trans (hb5.mono SA.size)); have hS5 := HKK.out _ S5.out; have KZ := hid (block_on (alloc_block wr.drew (.cells zc 44)) hb5); have kz := block_cell KZ.out; have fz := block_frozen KZ.out; clear SA ho5 hb5 hS0 FIRST HTake))
                    all_goals go_wp2_with fail
                    all_goals go_meet
                    all_goals first | exact ⟨_, _, _, rfl, rfl, rfl, (met2 (x := y) KZ.out S5.out (Nat.le_refl _)).1, (met2 (x := y) KZ.out S5.out (Nat.le_refl _)).2⟩ | exact ⟨_, _, _, rfl, rfl, rfl, alloc_block w5 _, S5.out.alloc S5.out.size _⟩
                  case rest =>
                    obtain ⟨bz, p5, c5, rfl, rfl, rfl, KZ, S5⟩ := hcut
                    obtain ⟨wd, rfl⟩ : ∃ x, x = wc := ⟨_, rfl⟩
                    have HBD := hid (below_on HBI.out S5.out)
                    have HSD := hid (HS.out.on (HBD.out.mono HS.out.sz))
                    have k0 := block_cell HSD.out.res
                    have f0 := block_frozen HSD.out.res
                    have k1 := block_cell HSD.out.non
                    have kz := block_cell KZ.out
                    by_cases hz : z = 0
                    · subst hz
                      obtain ⟨hyl, hyr⟩ := HBack.out rfl
                      have HNX := hid (HStep.out rfl)
                      have hyt : Y.length = t_ - a' := HYN.out
                      have hat : ((a' + (Y.length - yl.length) : Nat) : Int) = (t_ : Int) - (yl.length : Int) := by have := HTA.out; omega
                      have hle : a' + (Y.length - yl.length) ≤ N := by have := HTN.out; have := HTA.out; omega
                      obtain ⟨an, han⟩ : ∃ x, a' + (Y.length - yl.length) = x := ⟨_, rfl⟩
                      rw [han] at hat hle HNX
                      have hat2 : (t_ : Int) - (yl.length : Int) = (an : Int) := hat.symm
                      clear hat han hyl hyt
                      go_wp2_with (at_builtin; refine app_any elem48 vl_len (fun x _ => vl_cells x) rfl _ _ rfl rfl (HOV.out.on (S5.out.alloc S5.out.size _)) rfl (val_one (w := wd) (x := y)) (small11 (by rw [HVL.out]; simp; omega)) (HBD.out.alloc HBD.out.size _).size ?_; intro v6 w6 hown6 hb6; obtain ⟨p6, c6, rfl⟩ := own_formL (n := q + 1) hown6 (by rw [List.length_append, HVL.out]; rfl); have HO6 := hid hown6; have HB6 := hid ((HBD.out.alloc HBD.out.size _).trans hb6); clear hown6 hb6)
                      go_roundw
                      case rel => exact ⟨q + 1, an, p6, c6, dv ++ [y], by omega, hle, by first | rfl | (rw [← hat2]) | go_num, rfl, by go_num, HB6.out, HO6.out, by show _ = _; rw [List.length_append, HVL.out]; rfl, (fun x hx => by rcases List.mem_append.1 hx with h | h; exact HVR.out x h; simp at h; subst h; exact hyr), HNX.out⟩
                      case measure => simp [intOf]; omega
                    · have HD := hid (HDead.out hz)
                      go_wp2_with fail
                      have hst := stored2R (c' := .slice none 0 0) (r' := .slice none 0 0) HSD.out.res HSD.out.low
                      clear k0 f0 k1 kz
                      generalize World.setCell _ _ _ = WF at *
                      obtain ⟨hk, hb⟩ := hst
                      have kf := block_cell hk
                      exact bodyPost_ret (v := .tuple #[.agg nT, .int .i64 40]) (by simp [results, Try.results29, go_sem, kf]) rfl (.inr ⟨HD.out, rfl, hb⟩)
                · have hqk' : q = k := by omega
                  subst hqk'
                  have f2 := block_frozen HSI.out.tab
                  go_wp2_with (at_builtin; refine app_all elem35 one_len (fun x hx c hc => by simp [one] at hc; subst hc; simp at hx; subst hx; rfl) rfl _ _ rfl rfl (HOR.out.on (HBI.out.alloc HBI.out.size _)) rfl (head_one (w := wr)) (small1' (by rw [HHL.out]; simp; omega)) (Nat.le_trans HS.out.sz (HBI.out.alloc HBI.out.size _).size) ?_; intro v6 w6 hown6 hb6 hg6; obtain ⟨p6, c6, rfl⟩ := own_formL (n := j + 1) hown6 (by rw [List.length_append, HHL.out]; rfl); have HP6 := hid (row_put HS.out HO.out HOR.out HH.out HBI.out HOV.out (by rw [HVL.out]; omega) hown6 hb6 hg6); have kt6 := block_cell ((HS.out.on ((HBI.out.alloc HBI.out.size (.cells #[.slice pv q cv] 65)).mono HS.out.sz)).on hb6).tab; have ft6 := block_frozen ((HS.out.on ((HBI.out.alloc HBI.out.size (.cells #[.slice pv q cv] 65)).mono HS.out.sz)).on hb6).tab; clear hown6 hb6 hg6)
                  go_roundw
                  case rel => exact ⟨j + 1, a', p6, c6, hs ++ [Value.slice pv q cv], rs ++ [dv], by omega, ha', rfl, by go_num, HP6.out.1, HP6.out.2.1, HP6.out.2.2.1, by show _ = _; rw [List.length_append, HHL.out]; rfl, HP6.out.2.2.2, (fun x hx => by rcases List.mem_append.1 hx with h | h; exact HRG.out x h; simp at h; subst h; exact HVR.out), R3.done (by rw [HL.out]; exact HR3.out)⟩
                  case measure => simp [intOf]; omega
            · have hjr : j = rn := by omega
              subst hjr
              have HTB : Hid (TabIn (fun b => w.heap.size + 3 ≤ b) wr (.agg #[.slice pc k cc, .slice pr j cr]) dn rs) := ⟨_, _, rfl, Own.sl HO.out cl_len (small2 (by rw [HL.out]; omega)), hs, Own.sl HOR.out one_len (small1' (by rw [HHL.out]; omega)), HH.out.imp (fun b hb => hb.1)⟩
              obtain ⟨ez, hez⟩ : ∃ z, reZ dn rs = z := ⟨_, rfl⟩
              obtain ⟨el, hel⟩ : ∃ z, reL dn rs = z := ⟨_, rfl⟩
              have CEnc := renc_all (HTB.out.at)
              rw [hez, hel] at CEnc
              have k0 := block_cell HS.out.res
              have f0 := block_frozen HS.out.res
              have k1 := block_cell HS.out.non
              by_cases hgood : ez = 0 ∧ el = xs
              · have HG := hid (re_good (hez.trans hgood.1) (hel.trans hgood.2) HRG.out)
                obtain ⟨rfl, rfl⟩ := hgood
                clear hez hel
                go_wp2_with (go_at_call 27; refine CEnc.mono ?_; rintro e w1 ⟨p1, c1, rfl, ho1, hb1⟩; have HS1 := hid (HS.out.on (hb1.mono HS.out.sz)); have HT1 := hid (HTB.out.on hb1); have k0 := block_cell HS1.out.res; have f0 := block_frozen HS1.out.res; have k1 := block_cell HS1.out.non; have kt := block_cell HS1.out.tab; have d1 := conv_bat ho1; have d2 := conv_bat (HV.out.on HS1.out.low); clear ho1 hb1)
                have hst := stored2R (c' := .slice pc k cc) (r' := .slice pr j cr) HS1.out.res HS1.out.low
                have hT := (TabIn.set (R := w.heap.size) (i := 1) (u := .slice pr j cr) (fun b hb => by omega) (TabIn.set (R := w.heap.size) (i := 0) (u := .slice pc k cc) (fun b hb => by omega) HT1.out)).at
                clear k0 f0 k1 kt
                generalize World.setCell _ _ _ = WF at *
                obtain ⟨hk, hb⟩ := hst
                have kf := block_cell hk
                exact bodyPost_ret (v := .tuple #[.agg #[.slice pc k cc, .slice pr j cr], .int .i64 0]) (by simp [results, Try.results29, go_sem, kf]) rfl (.inl ⟨dn, rs, _, HG.out, rfl, hT, hb⟩)
              · have HD := hid (re_bad (X := X) (m := j) (a := a3) HR.out (by rw [hez, hel]; exact hgood))
                clear hez hel
                have hsp : ¬ ez = 0 ∨ (ez = 0 ∧ ¬ el = xs) := by
                  by_cases h0 : ez = 0
                  · exact .inr ⟨h0, fun h => hgood ⟨h0, h⟩⟩
                  · exact .inl h0
                clear hgood
                rcases hsp with h0 | ⟨rfl, hne⟩
                · go_wp2_with (go_at_call 27; refine CEnc.mono ?_; rintro e w1 ⟨p1, c1, rfl, ho1, hb1⟩; have HS1 := hid (HS.out.on (hb1.mono HS.out.sz)); have k0 := block_cell HS1.out.res; have f0 := block_frozen HS1.out.res; have k1 := block_cell HS1.out.non; clear ho1 hb1)
                  have hst := stored2R (c' := .slice none 0 0) (r' := .slice none 0 0) HS1.out.res HS1.out.low
                  clear k0 f0 k1
                  generalize World.setCell _ _ _ = WF at *
                  obtain ⟨hk, hb⟩ := hst
                  have kf := block_cell hk
                  exact bodyPost_ret (v := .tuple #[.agg nT, .int .i64 40]) (by simp [results, Try.results29, go_sem, kf]) rfl (.inr ⟨HD.out, rfl, hb⟩)
                · have hneb : ¬ (⟨el.toArray⟩ : ByteArray) = ⟨xs.toArray⟩ := by intro h; apply hne; simpa using h
                  obtain ⟨s1, hs1⟩ : ∃ s : ByteArray, ⟨el.toArray⟩ = s := ⟨_, rfl⟩
                  obtain ⟨s2, hs2⟩ : ∃ s : ByteArray, ⟨xs.toArray⟩ = s := ⟨_, rfl⟩
                  rw [hs1, hs2] at hneb
                  have hbq : (s1.toList == s2.toList) = false := by rw [bytes_beq]; simp [hneb]
                  have HS1 := hid hs1
                  have HS2 := hid hs2
                  clear hs1 hs2
                  go_wp2_with (go_at_call 27; refine CEnc.mono ?_; rintro e w1 ⟨p1, c1, rfl, ho1, hb1⟩; have HSS := hid (HS.out.on (hb1.mono HS.out.sz)); have k0 := block_cell HSS.out.res; have f0 := block_frozen HSS.out.res; have k1 := block_cell HSS.out.non; have d1 := conv_bat ho1; have d2 := conv_bat (HV.out.on HSS.out.low); rw [HS1.out] at d1; rw [HS2.out] at d2; clear ho1 hb1)
                  have hst := stored2R (c' := .slice none 0 0) (r' := .slice none 0 0) HSS.out.res HSS.out.low
                  clear k0 f0 k1
                  generalize World.setCell _ _ _ = WF at *
                  obtain ⟨hk, hb⟩ := hst
                  have kf := block_cell hk
                  exact bodyPost_ret (v := .tuple #[.agg nT, .int .i64 40]) (by simp [results, Try.results29, go_sem, kf]) rfl (.inr ⟨HD.out, rfl, hb⟩)
end Go.Proofs.Ytjfholofgohcjaa
