/-
  A condition's test is made.
  Package pred's Holds.
-/
import Derived.Test.YtjekpclbedbaoaaKS18
import Derived.Test.YtjekpclbedbaoaaKS20
import Derived.Deep.RegionHeld
import Derived.Deep.MidRow
import Derived.Laws.EntriesVeiled
namespace Go.Proofs.Ytjekpclbedbaoaa.PD
open Go.RowKit Go.Joins

abbrev fn1 (v : Value) : List Value := [v]
theorem info_fn : (Try.prog.info? 106).map (fun i => (i.zero, i.size, i.bytes)) = some (some Value.nilFunc, 1, 8) := by kernel_rfl
theorem elem_fn : ElemN 103 106 1 8 := by
  obtain ⟨i, hi, h0, h1, h2⟩ := info_parts info_fn
  exact ⟨Try.underlying103, by omega, i, _, hi, h0, h1, Nat.le_of_eq h2, rfl⟩
abbrev Sn (ab hvb g o : Nat) (v1 v2 : Value) (q : Nx) (w : World) : Prop := w.cell? ⟨ab, 0, none⟩ = some v1 ∧ w.cell? ⟨hvb, 0, none⟩ = some v2 ∧ w.rangeAt g o q.cells
theorem snB {ab hvb g o : Nat} {v1 v2 : Value} {q : Nx} {w w' : World} (h : Sn ab hvb g o v1 v2 q w) (hb : Below w.heap.size w w') : Sn ab hvb g o v1 v2 q w' :=
  ⟨(hb.cell (p := ⟨ab, 0, none⟩) (block_lt_of_cell h.1)).trans h.1, (hb.cell (p := ⟨hvb, 0, none⟩) (block_lt_of_cell h.2.1)).trans h.2.1, fun j u hj => (hb.cell (p := ⟨g, o + j, none⟩) (block_lt_of_cell (h.2.2 j u hj))).trans (h.2.2 j u hj)⟩
/- The places that are needed, as far as it has come. -/
def lsN (nl : List Bool) (k : Nat) : List Nat := (List.range k).filter fun a => hsAt nl (a : Int)
theorem lsN_succ (nl : List Bool) (k : Nat) : lsN nl (k + 1) = if hsAt nl (k : Int) = true then lsN nl k ++ [k] else lsN nl k := by
  unfold lsN
  rw [List.range_succ, List.filter_append]
  by_cases h : hsAt nl (k : Int) = true
  · rw [if_pos h]; simp [h]
  · rw [if_neg h]; simp [h]
theorem lsN_le (nl : List Bool) (k : Nat) : (lsN nl k).length ≤ k := by
  unfold lsN
  exact Nat.le_trans (List.length_filter_le _ _) (by simp)
theorem lsN_mem {nl : List Bool} {k a : Nat} : a ∈ lsN nl k ↔ a < k ∧ hsAt nl (a : Int) = true := by
  unfold lsN; simp
theorem lsN_ats {qs : List Nx} {i : Nat} {nl : List Bool} (h : Need qs i 0 nl) : Ats qs i (lsN nl (i + 1)) := by
  refine ⟨List.Pairwise.filter _ (List.pairwise_lt_range), fun a ha => by have := (lsN_mem.1 ha).1; omega, lsN_mem.2 ⟨by omega, h.top⟩, fun a ha q hq e he => ?_⟩
  obtain ⟨h1, h2⟩ := lsN_mem.1 ha
  have hm := bel_mem he
  have := h.down a (Nat.zero_le _) (by omega) h2 q hq e he
  exact lsN_mem.2 ⟨by omega, by rw [Int.toNat_of_nonneg hm.1]; exact this⟩
theorem cols_lt {w : World} {v : Value} {cs : List TN.Cl} (h : TN.ColsAt w v cs) : TN.SlAt (fun b => b < w.heap.size) TN.Cl.cells 2 w v cs := by
  obtain ⟨p, cap, hv, hc, hm, hx⟩ := h
  refine ⟨p, cap, hv, hc, hm, fun hne => ?_⟩
  obtain ⟨b, o, hp, hQ, hj⟩ := hx hne
  refine ⟨b, o, hp, ⟨?_, hQ.2⟩, hj⟩
  match cs, hne with
  | x :: r, _ => exact block_lt_of_cell (hj 0 x rfl 0 _ rfl)
theorem step_call4 {ops : Array Oper} {o : Oper} {a : Act} {w : World} {K : Act → World → Prop} {Q : Exit → Act → World → Prop} {E : Prop} {f : FuncId} {v1 v2 v3 v4 : Value} (hgd : o.guard = none) (i1 i2 i3 i4 : Nat) (t1 t2 t3 t4 : TypeId)
    (ho : o.op = .call { callee := .value (.func f), args := #[.tmp i1, .tmp i2, .tmp i3, .tmp i4], argTypes := #[t1, t2, t3, t4] }) (h1 : a.eval (.tmp i1) = v1) (h2 : a.eval (.tmp i2) = v2) (h3 : a.eval (.tmp i3) = v3) (h4 : a.eval (.tmp i4) = v4) (hen : ∀ args w, (callFunc f args).run Try.prog w = .ok (.enter f args) w)
    (hc : Calls Try.prog f #[v1, v2, v3, v4] w fun e w' => ∃ u, e = .returned u ∧ K (a.put o.dst u) w') : if Region.wanted o (yielded ops a.tmps) = true then Oper.wp Try.prog o a w K Q else E := by
  have hw : Region.wanted o (yielded ops a.tmps) = true := by simp [Region.wanted, hgd]
  rw [if_pos hw]
  unfold Oper.wp
  have hr : (execOp a.eval o).run Try.prog w = .ok (.enter f #[v1, v2, v3, v4]) w := by
    simp [execOp, ho, resolve, invoke, hen, go_sem]
    exact ⟨by simpa [Act.eval] using h1, by simpa [Act.eval] using h2, by simpa [Act.eval] using h3, by simpa [Act.eval] using h4⟩
  rw [hr, Oper.upon_enter]
  refine hc.mono ?_
  rintro e w' ⟨u, rfl, hk⟩
  exact hk
theorem enters_nt : ∀ args w, (callFunc 60 args).run Try.prog w = .ok (.enter 60 args) w := enters_of Try.func60 (by kernel_rfl) rfl
theorem Tst.form {hd n : Nat} {cs : List TN.Cl} {q : Nx} {i : Nat} {w : World} {tv : Value} (h : Tst hd n cs q i w tv) : ∃ f caps, tv = .func (.func f) #[] caps := by
  cases h <;> exact ⟨_, _, rfl⟩
def CnP (cs : List TN.Cl) (qs : List Nx) (i : Nat) (w : World) (x : Ending) (w' : World) : Prop := ∃ hd hvb sb ib sg sc svs ls hs, x = .returned (.func (.func 62) #[] #[dp sb, dp hvb, dp ib]) ∧ Cnd hd hvb sb ib sg sc svs cs qs i ls w' ∧ Hd w' hd hs ∧ hs.length = i + 1 ∧ w.heap.size ≤ hd ∧ Below w.heap.size w w'
/- What stands in the loop's round. -/
structure Lp (ib hd hvb sb B0 : Nat) (cs : List TN.Cl) (qs : List Nx) (i : Nat) (nl : List Bool) (k : Nat) (W4 w : World) (svs : List Value) (sv : Value) : Prop where
  kp : Kp (fun b => b = sb) W4 w
  sb : w.heap[sb]? = some (.cells #[sv] 103 (0, 0))
  own : Own fn1 1 106 B0 w sv svs
  len : svs.length = (lsN nl k).length
  stp : ∀ (j a : Nat) v q, (lsN nl k)[j]? = some a → svs[j]? = some v → qs[a]? = some q → Stp hd (i + 1) hvb cs q a w v
theorem Lp.sb8 {ib hd hvb sb : Nat} {cs : List TN.Cl} {qs : List Nx} {i : Nat} {nl : List Bool} {k : Nat} {W4 w7 w8 : World} {svs : List Value} {sv : Value} {x : Obj} (h : Lp ib hd hvb sb W4.heap.size cs qs i nl k W4 w7 svs sv) (hs : hd ≤ sb ∧ sb < W4.heap.size) (hg : (w7.alloc x).grownBy w8 sv.ownBlock) : w8.cell? ⟨sb, 0, none⟩ = some sv ∧ w8.frozen? ⟨sb, 0, none⟩ = false := by
  have hb1 : Below w7.heap.size w7 (w7.alloc x) := (Below.refl _ _).alloc (Nat.le_refl _) _
  have hk2 : Kp (fun b => sv.ownBlock = some b) (w7.alloc x) w8 := Kp.grown hg (fun b e => e)
  have := hk2.blk (block_on h.sb hb1) (fun e => by have := ((h.own.on hb1).at e).1; omega)
  exact ⟨block_cell this 0, block_frozen this 0⟩
theorem Lp.next {ib hd hvb sb : Nat} {cs : List TN.Cl} {qs : List Nx} {i : Nat} {nl : List Bool} {k : Nat} {W4 w7 w8 : World} {svs : List Value} {sv v5 f : Value} {q : Nx} {x : Obj} (h : Lp ib hd hvb sb W4.heap.size cs qs i nl k W4 w7 svs sv) (hk : hsAt nl (k : Int) = true) (hq : qs[k]? = some q) (hst : Stp hd (i + 1) hvb cs q k w7 f) (hs : hd ≤ sb ∧ sb < W4.heap.size) (ho : Own fn1 1 106 W4.heap.size w8 v5 (svs ++ [f])) (hg : (w7.alloc x).grownBy w8 sv.ownBlock) :
    Lp ib hd hvb sb W4.heap.size cs qs i nl (k + 1) W4 (w8.setCell ⟨sb, 0, none⟩ v5) (svs ++ [f]) v5 := by
  have hb1 : Below w7.heap.size w7 (w7.alloc x) := (Below.refl _ _).alloc (Nat.le_refl _) _
  have hk2 : Kp (fun b => sv.ownBlock = some b) (w7.alloc x) w8 := Kp.grown hg (fun b e => e)
  have hk3 : Kp (fun b => b = sb) w8 (w8.setCell ⟨sb, 0, none⟩ v5) := Kp.set (T := fun b => b = sb) rfl _
  have hown : Own fn1 1 106 W4.heap.size (w7.alloc x) sv svs := h.own.on hb1
  have hsb1 : (w7.alloc x).heap[sb]? = some (.cells #[sv] 103 (0, 0)) := block_on h.sb hb1
  have hsb2 : w8.heap[sb]? = some (.cells #[sv] 103 (0, 0)) := hk2.blk hsb1 (fun e => by have := (hown.at e).1; omega)
  have hsb3 : (w8.setCell ⟨sb, 0, none⟩ v5).heap[sb]? = some (.cells #[v5] 103 (0, 0)) := by simpa using block_set hsb2 0 v5
  have t2 : TyS (w7.alloc x) (fun b => sv.ownBlock = some b) hd := fun b e => ⟨by have := (hown.at e).1; omega, fun c t fz hc => by
    obtain ⟨c', fz', hc'⟩ := hown.kind e
    rw [hc'] at hc
    simp only [Option.some.injEq, Obj.cells.injEq] at hc
    exact .inr (.inr hc.2.1.symm)⟩
  have t3 : TyS w8 (fun b => b = sb) hd := fun b e => ⟨by omega, fun c t fz hc => by
    subst e
    rw [hsb2] at hc
    simp only [Option.some.injEq, Obj.cells.injEq] at hc
    exact .inr (.inl hc.2.1.symm)⟩
  have st : ∀ {a : Nat} {v : Value} {q : Nx}, Stp hd (i + 1) hvb cs q a w7 v → Stp hd (i + 1) hvb cs q a (w8.setCell ⟨sb, 0, none⟩ v5) v := fun hs => ((hs.kp (Kp.of hb1) (TyS.no _ _)).kp hk2 t2).kp hk3 t3
  refine ⟨((h.kp.trans (Kp.of hb1)).trans' hk2 (fun b hb e => by have := (hown.at e).1; omega)).trans hk3, hsb3, ho.kp hk3 (fun g hg e => ?_), ?_, ?_⟩
  · subst e
    obtain ⟨c', fz', hc'⟩ := ho.kind hg
    rw [hsb2] at hc'
    simp only [Option.some.injEq, Obj.cells.injEq] at hc'
    exact absurd hc'.2.1 (by decide)
  · rw [lsN_succ, if_pos hk, List.length_append, List.length_append, h.len]; rfl
  · intro j a v q' h1 h2 h3
    rw [lsN_succ, if_pos hk] at h1
    rcases Nat.lt_or_ge j (lsN nl k).length with hj | hj
    · rw [List.getElem?_append_left hj] at h1
      rw [List.getElem?_append_left (by rw [h.len]; exact hj)] at h2
      exact st (h.stp j a v q' h1 h2 h3)
    · rw [List.getElem?_append_right hj] at h1
      rw [List.getElem?_append_right (by rw [h.len]; exact hj), h.len] at h2
      cases e : j - (lsN nl k).length with
      | zero =>
        rw [e] at h1 h2
        simp only [List.getElem?_cons_zero, Option.some.injEq] at h1 h2
        subst h1 h2
        rw [hq] at h3; cases h3
        exact st hst
      | succ m => rw [e] at h1; simp at h1
set_option maxRecDepth 100000 in
set_option maxHeartbeats 4000000 in
theorem cnd_make {i : Nat} {nv cv : Value} {qs : List Nx} {cs : List TN.Cl} {w : World} (hq : Qx (fun b => b < w.heap.size) w nv qs) (hi : i < qs.length) (hs : i < 1000) (hc : TN.ColsAt w cv cs) : Calls Try.prog 32 #[nv, .int .i64 (i : Int), cv] w (CnP cs qs i w) := by
  have hmk := make_bs i (by omega)
  obtain ⟨q0, hq0⟩ : ∃ q0, qs[i]? = some q0 := ⟨_, List.getElem?_eq_getElem hi⟩
  obtain ⟨p, c, rfl, hc1, hc2⟩ := hq.sl.form
  obtain ⟨g, o, rfl, hg, -⟩ := hq.sl.at hq0
  unfold maxLen at hc2
  obtain ⟨m, hm⟩ : ∃ m, qs.length = m := ⟨_, rfl⟩
  have HM := hid hm
  rw [hm] at hi hc1
  have HQ := hid hq
  rw [hm] at HQ
  have i1 : (i : Int) + 1 ≤ 1000 := by omega
  have i2 : (0 : Int) ≤ (i : Int) + 1 := by omega
  have i3 : (i : Int) < (m : Int) := by omega
  have i4 : ¬ (m : Int) ≤ (i : Int) := by omega
  have i0 : (0 : Int) ≤ (i : Int) := by omega
  have i5 : ¬ (i : Int) < 0 := by omega
  obtain ⟨W1, hW1⟩ : ∃ W1, W1 = w.alloc (.cells #[.int .i64 (i : Int)] 3) := ⟨_, rfl⟩
  obtain ⟨W2, hW2⟩ : ∃ W2, W2 = W1.alloc (.cells (Array.replicate (i + 1) (Value.bool false)) 4) := ⟨_, rfl⟩
  obtain ⟨W3, hW3⟩ : ∃ W3, W3 = W2.alloc (.cells #[slB (w.heap.size + 1) (i + 1)] 102) := ⟨_, rfl⟩
  obtain ⟨W4, hW4⟩ : ∃ W4, W4 = W3.alloc (.cells #[.slice none 0 0] 103) := ⟨_, rfl⟩
  have z1 : W1.heap.size = w.heap.size + 1 := by rw [hW1]; simp
  have z2 : W2.heap.size = w.heap.size + 2 := by rw [hW2]; simp [z1]
  have z3 : W3.heap.size = w.heap.size + 3 := by rw [hW3]; simp [z2]
  have b1 : Below w.heap.size w W1 := by rw [hW1]; exact (Below.refl _ _).alloc (Nat.le_refl _) _
  have b2 : Below W1.heap.size W1 W2 := by rw [hW2]; exact (Below.refl _ _).alloc (Nat.le_refl _) _
  have b3 : Below W2.heap.size W2 W3 := by rw [hW3]; exact (Below.refl _ _).alloc (Nat.le_refl _) _
  have b4 : Below W3.heap.size W3 W4 := by rw [hW4]; exact (Below.refl _ _).alloc (Nat.le_refl _) _
  have x1 : W4.heap[w.heap.size]? = some (.cells #[.int .i64 (i : Int)] 3 (0, 0)) := block_on (block_on (block_on (by rw [hW1]; exact alloc_block w _) b2) b3) b4
  have x2 : Hd W4 (w.heap.size + 1) (List.replicate (i + 1) false) := by
    have : Hd W2 (w.heap.size + 1) (List.replicate (i + 1) false) := by unfold Hd; rw [make_bools, List.toArray_replicate, hW2, ← z1]; exact alloc_block W1 _
    exact (this.on b3).on b4
  have x3 : W4.heap[w.heap.size + 2]? = some (.cells #[slB (w.heap.size + 1) (i + 1)] 102 (0, 0)) := block_on (by rw [hW3, ← z2]; exact alloc_block W2 _) b4
  have x4 : W4.heap[w.heap.size + 3]? = some (.cells #[.slice none 0 0] 103 (0, 0)) := by rw [hW4, ← z3]; exact alloc_block W3 _
  have HB4 : Hid (Below w.heap.size w W4) := b1.trans ((b2.trans ((b3.trans (b4.mono b3.size)).mono b2.size)).mono b1.size)
  have HX1 := hid x1
  have HX2 := hid x2
  have HX3 := hid x3
  have HX4 := hid x4
  have HW : Hid (W4 = (((w.alloc (.cells #[.int .i64 (i : Int)] 3)).alloc (.cells (Array.replicate (i + 1) (Value.bool false)) 4)).alloc (.cells #[slB (w.heap.size + 1) (i + 1)] 102)).alloc (.cells #[.slice none 0 0] 103)) := by show _ = _; rw [hW4, hW3, hW2, hW1]
  have y1 := block_cell x1 0
  have HC := hid hc
  have HNd : Hid (Calls Try.prog 59 #[.slice (some ⟨g, o, none⟩) m c, .int .i64 (i : Int)] W4 (NdP qs i W4)) := needed_any ⟨(HQ.out.sl.on HB4.out).imp (fun b hb => by have := HB4.out.size; omega), fun q hq => by have h := HQ.out.each q hq; have h2 := h.kp (Kp.of HB4.out) (T := fun _ => False) (fun _ _ => id); exact ⟨h2.l.imp (fun b hb => by have := HB4.out.size; omega), h2.n.imp (fun b hb => by have := HB4.out.size; omega), h2.g.imp (fun b hb => by have := HB4.out.size; omega)⟩⟩ (by rw [HM.out]; exact hi) hs
  have HI := hid hi
  clear hq hc1 hq0 hm hi hW1 hW2 hW3 hW4 z1 z2 z3 b1 b2 b3 b4 x1 x2 x3 x4 hc
  have hmf : ∀ (fn : Fn) (first cap : Array Value) (w : World), (Instr.makeFunc fn first cap).run Try.prog w = .ok (.func fn first cap) w := fun _ _ _ _ => rfl
  go_enter Try.func32, Try.ntmps32
  rw [HM.out]
  go_upto_region 5 with fail
  rw [← HW.out]
  generalize hB : w.heap.size = B at *
  go_upto_region 6 with (go_at_call 59; refine HNd.out.mono ?_; rintro e W5 ⟨nd, nl, rfl, h1, h2, h3, hbw⟩; have HNl := hid h3; have HD5 := hid h2; have HG5 := hid h1; have HB5 := hid hbw; clear h1 h2 h3 hbw)
  generalize e1 : B + 1 = hd at *
  generalize e2 : hd + 1 = hvb at *
  generalize e3 : hvb + 1 = sb at *
  have HBB : Hid (w.heap.size = B ∧ B + 1 = hd ∧ hd + 1 = hvb ∧ hvb + 1 = sb) := ⟨hB, e1, e2, e3⟩
  have HQ5 : Hid (Qx (fun b => b < hd) W5 (.slice (some ⟨g, o, none⟩) m c) qs) := by
    have hb : Below w.heap.size w W5 := by rw [hB]; exact HB4.out.trans (HB5.out.mono (by have := HB4.out.size; omega))
    refine ⟨(HQ.out.sl.on hb).imp (fun b hb => by omega), fun q hq => ?_⟩
    have h2 := (HQ.out.each q hq).kp (Kp.of hb) (T := fun _ => False) (fun _ _ => id)
    exact ⟨h2.l.imp (fun b hb => by omega), h2.n.imp (fun b hb => by omega), h2.g.imp (fun b hb => by omega)⟩
  have HBw : Hid (Below w.heap.size w W5) := by show Below _ _ _; rw [hB]; exact HB4.out.trans (HB5.out.mono (by have := HB4.out.size; omega))
  have HC5 : Hid (TN.SlAt (fun b => b < B) TN.Cl.cells 2 W5 cv cs) := by
    have := cols_lt HC.out
    rw [hB] at this
    exact this.on HBw.out
  have x1' := HX1.out
  have x2' : Hd W4 hd (List.replicate (i + 1) false) := by exact HX2.out
  have x3' : W4.heap[hvb]? = some (.cells #[slB hd (i + 1)] 102 (0, 0)) := by rw [← e2, ← e1]; have := HX3.out; rw [← e1] at this; exact this
  have x4' : W4.heap[sb]? = some (.cells #[.slice none 0 0] 103 (0, 0)) := by rw [← e3, ← e2, ← e1]; exact HX4.out
  have X1 := hid (block_on x1' HB5.out)
  have X2 := hid (x2'.on HB5.out)
  have X3 := hid (block_on x3' HB5.out)
  have X4 := hid (block_on x4' HB5.out)
  have HS4 : Hid (sb < W4.heap.size) := lt_of_block x4'
  have HS5 := HB5.out.size
  have HL0 : Hid (Lp B hd hvb sb W5.heap.size cs qs i nl 0 W5 W5 [] (.slice none 0 0)) := ⟨Kp.refl _ _, X4.out, Own.nil _ _ _ _ _, rfl, fun j a v q h => by simp [lsN] at h⟩
  clear x1' x2' x3' x4' y1 HX1 HX2 HX3 HX4 HW hB e1 e2 e3 HNd hg HQ HC HB4 hmk HS5
  go_loopw [27] (fun x wr => ∃ k : Nat, k ≤ i + 1 ∧ x = .int .i64 k ∧ Hid (∃ svs sv, Lp B hd hvb sb W5.heap.size cs qs i nl k W5 wr svs sv)) (fun x _ => i + 1 - (intOf x).toNat)
  case atStart => exact ⟨0, by omega, rfl, [], _, HL0.out⟩
  case round =>
    obtain ⟨k, hk, rfl, hLp⟩ := hrel
    obtain ⟨svs, sv, hL⟩ := hLp.out
    clear hLp
    obtain ⟨hBw, hB1, hB2, hB3⟩ := HBB.out
    have hs4 := HS4.out
    have hs5 := HB5.out.size
    by_cases hkl : k < i + 1
    · have kI : (k : Int) < (i : Int) + 1 := by omega
      have km : (k : Int) < (m : Int) := by omega
      have k0 : (0 : Int) ≤ (k : Int) := by omega
      have hH5 : Hd wr nd nl := hL.kp.blk HD5.out (by have := HG5.out; omega)
      have yk := hH5.cell (a := k) (by rw [HNl.out.len]; omega)
      have hne : nd ≠ wr.heap.size := by have := lt_of_block hH5; omega
      have HLp := hid hL
      cases hb : hsAt nl (k : Int) with
      | false =>
        rw [hb] at yk
        have HF := hid hb
        have yk' : (wr.alloc (.cells #[.int .i64 (k : Int)] 3)).cell? ⟨nd, k, none⟩ = some (.bool false) := (((Below.refl wr.heap.size wr).alloc (Nat.le_refl _) (.cells #[.int .i64 (k : Int)] 3)).cell (p := ⟨nd, k, none⟩) (block_lt_of_cell yk)).trans yk
        have HBa : Hid (Below wr.heap.size wr (wr.alloc (.cells #[.int .i64 (k : Int)] 3))) := (Below.refl _ _).alloc (Nat.le_refl _) _
        clear hL hH5 hb hBw hB1 hB2 hB3 hs4 hs5
        go_wp2_with fail
        go_roundw
        case rel =>
          refine ⟨k + 1, by omega, by go_num, svs, sv, HLp.out.kp.trans (Kp.of HBa.out), block_on HLp.out.sb HBa.out, HLp.out.own.on HBa.out, ?_, ?_⟩
          · rw [lsN_succ, if_neg (by rw [HF.out]; simp)]; exact HLp.out.len
          · intro j a v q h1 h2 h3
            rw [lsN_succ, if_neg (by rw [HF.out]; simp)] at h1
            exact (HLp.out.stp j a v q h1 h2 h3).kp (Kp.of HBa.out) (TyS.no _ _)
        case measure => simp [intOf]; omega
      | true =>
        rw [hb] at yk
        have HF := hid hb
        obtain ⟨q, hq⟩ : ∃ q, qs[k]? = some q := ⟨_, List.getElem?_eq_getElem (by have := HM.out; omega)⟩
        have HX := hid hq
        obtain ⟨g', o', eg, -, hcq⟩ := HQ5.out.sl.at hq
        cases eg
        have hql := (HQ5.out.each q (List.mem_of_getElem? hq)).l
        have hdl : hd < W5.heap.size := by omega
        have HKl := hid hL.kp
        have HHV := hL.kp.blk X3.out (by omega)
        have hcr : CellsAt wr g (o + k * 19) q.cells := hcq.kp hL.kp (fun e => by have := HQ5.out.sl.at hq; obtain ⟨g2, o2, e2, h2, -⟩ := this; cases e2; omega)
        have HBa : Hid (Below wr.heap.size wr (wr.alloc (.cells #[.int .i64 (k : Int)] 3))) := (Below.refl _ _).alloc (Nat.le_refl _) _
        have yk' := (HBa.out.cell (p := ⟨nd, k, none⟩) (block_lt_of_cell yk)).trans yk
        have hAb : (wr.alloc (.cells #[.int .i64 (k : Int)] 3)).heap[wr.heap.size]? = some (.cells #[.int .i64 (k : Int)] 3 (0, 0)) := alloc_block _ _
        have hS0 : Sn wr.heap.size hvb g (o + k * 19) (.int .i64 (k : Int)) (slB hd (i + 1)) q (wr.alloc (.cells #[.int .i64 (k : Int)] 3)) := ⟨block_cell hAb 0, block_cell (block_on HHV HBa.out) 0, fun j u hj => (HBa.out.cell (p := ⟨g, o + k * 19 + j, none⟩) (block_lt_of_cell (hcr j u hj))).trans (hcr j u hj)⟩
        have HAb := hid hAb
        have hkpa : Kp (fun b => b = sb) W5 (wr.alloc (.cells #[.int .i64 (k : Int)] 3)) := hL.kp.trans (Kp.of HBa.out)
        go_upto_region 9 with fail
        generalize hwa : wr.alloc (.cells #[.int .i64 (k : Int)] 3) = wa at *
        have HABl : Hid (wr.heap.size < wa.heap.size) := lt_of_block HAb.out
        generalize hab : wr.heap.size = ab at *
        have HWr : Hid (wr.heap.size = ab) := hab
        clear hab
        have HKI : Hid (k < i + 1) := hkl
        have HCa : Hid (∀ W, Below wa.heap.size wa W → TN.ColsAt W cv cs) := fun W hW => ((tnSl_kp HC5.out hkpa (fun b hb e => by omega)).on hW).imp (fun _ _ => trivial)
        have HQa : Hid (∀ W, Below wa.heap.size wa W → SlAt (fun b => b < hd) int1 1 W q.lv q.np.l) := fun W hW => (hql.kp hkpa (fun b hb e => by omega)).on hW
        have HHa : Hid (∀ W, Below wa.heap.size wa W → hd < W.heap.size) := fun W hW => by have := hW.size; have := hkpa.size; omega
        clear hwa hcr hcq hql HHV hAb yk yk' hkpa hq hb hL hH5
        refine wp_region_held_drew (S := Sn ab hvb g (o + k * 19) (.int .i64 (k : Int)) (slB hd (i + 1)) q) (by kernel_rfl) hS0 (fun hT => ?_)
        refine wpAnyH_take (i := 0) (v := .slice (some ⟨g, o, none⟩) m c) rfl (by kernel_rfl) (by kernel_rfl) (by kernel_rfl) (fun _ _ _ h => h) (Or.inl ⟨by rfl, fun w' hSw => by go_simp⟩) hT ?_
        try simp only [Act.put, List.getElem_toArray, List.getElem_cons_zero, List.setIfInBounds_toArray, List.set_cons_succ, List.set_cons_zero]
        refine wpAnyH_take (i := 1) (v := ?_) rfl (by kernel_rfl) (by kernel_rfl) (by kernel_rfl) (fun _ _ _ h => h) (Or.inl ⟨by rfl, ?_⟩) hT ?_
        rotate_left
        · intro w' hSw
          obtain ⟨s1, s2, -⟩ := hSw
          go_simp
          try (with_reducible rfl)
        try simp only [Act.put, List.getElem_toArray, List.getElem_cons_zero, List.getElem_cons_succ, List.setIfInBounds_toArray, List.set_cons_succ, List.set_cons_zero]
        refine wpAnyH_take (i := 2) (v := ?_) rfl (by kernel_rfl) (by kernel_rfl) (by kernel_rfl) (fun _ _ _ h => h) (Or.inl ⟨by rfl, ?_⟩) hT ?_
        rotate_left
        · intro w' hSw
          obtain ⟨s1, s2, -⟩ := hSw
          go_simp
          try (with_reducible rfl)
        try simp only [Act.put, List.getElem_toArray, List.getElem_cons_zero, List.getElem_cons_succ, List.setIfInBounds_toArray, List.set_cons_succ, List.set_cons_zero]
        refine wpAnyH_take (i := 3) (v := .agg q.cells.toArray) rfl (by kernel_rfl) (by kernel_rfl) (by kernel_rfl) (fun _ _ _ h => h) (yieldsIf_load_mid (by rfl) 44 (.tmp 35) rfl g (o + k * 19) (by simp [Act.eval]) q.cells _ (fun _ h => h.2.2) Try.underlying44 rfl size_node) hT ?_
        try simp only [Act.put, List.getElem_toArray, List.getElem_cons_zero, List.getElem_cons_succ, List.setIfInBounds_toArray, List.set_cons_succ, List.set_cons_zero]
        refine wpAnyH_take (i := 4) (v := ?_) rfl (by kernel_rfl) (by kernel_rfl) (by kernel_rfl) (fun _ _ _ h => h) (Or.inl ⟨by rfl, ?_⟩) hT ?_
        rotate_left
        · intro w' hSw
          obtain ⟨s1, s2, -⟩ := hSw
          go_simp
          try (with_reducible rfl)
        try simp only [Act.put, List.getElem_toArray, List.getElem_cons_zero, List.getElem_cons_succ, List.setIfInBounds_toArray, List.set_cons_succ, List.set_cons_zero]
        refine wpAnyH_take (i := 5) (v := ?_) rfl (by kernel_rfl) (by kernel_rfl) (by kernel_rfl) (fun _ _ _ h => h) (Or.inl ⟨by rfl, ?_⟩) hT ?_
        rotate_left
        · intro w' hSw
          obtain ⟨s1, s2, -⟩ := hSw
          go_simp
          try (with_reducible rfl)
        try simp only [Act.put, List.getElem_toArray, List.getElem_cons_zero, List.getElem_cons_succ, List.setIfInBounds_toArray, List.set_cons_succ, List.set_cons_zero]
        refine wpAnyH_take (i := 6) (v := ?_) rfl (by kernel_rfl) (by kernel_rfl) (by kernel_rfl) (fun _ _ _ h => h) (Or.inl ⟨by rfl, ?_⟩) hT ?_
        rotate_left
        · intro w' hSw
          obtain ⟨s1, s2, -⟩ := hSw
          go_simp
          try (with_reducible rfl)
        try simp only [Act.put, List.getElem_toArray, List.getElem_cons_zero, List.getElem_cons_succ, List.setIfInBounds_toArray, List.set_cons_succ, List.set_cons_zero]
        refine wpAnyH_ready (rs := [7, 8]) (by kernel_rfl) (by simp) ?_
        refine AllReadyH.cons rfl (fun K hK => ?_) (AllReadyH.cons rfl (fun K hK => ?_) AllReadyH.nil)
        · refine step_call4 (v1 := .agg q.cells.toArray) (v2 := .int .i64 (k : Int)) (v3 := cv) (v4 := slB hd (i + 1)) rfl 36 37 38 39 44 3 22 102 rfl (by simp [Act.eval]) (by simp [Act.eval]) (by simp [Act.eval]) (by simp [Act.eval]) enters_nt ?_
          refine (nodeTest_any (HCa.out _ (Below.refl _ _).drew) (HQa.out _ (Below.refl _ _).drew) (HHa.out _ (Below.refl _ _).drew) HKI.out).mono ?_
          rintro e w6 ⟨tv, rfl, h0, h1, h2⟩
          obtain ⟨tf, tc, rfl⟩ := h1.form
          refine ⟨_, rfl, ?_⟩
          have HB6 : Hid (Below wa.heap.size wa w6) := (Below.refl _ _).drew.trans h2
          have HT6 := hid h1
          refine hK.out _ _ (snB hS0 HB6.out) (fun hT => ?_)
          clear hK h1 h2
          try go_frame
          refine wpAnyH_ready (rs := [8]) (by kernel_rfl) (by simp) ?_
          refine AllReadyH.cons rfl (fun K hK => ?_) AllReadyH.nil
          go_simp
          refine hK.out _ _ (snB (snB hS0 HB6.out) ((Below.refl _ _).alloc (Nat.le_refl _) _)) (fun hT => ?_)
          clear hK
          try go_frame
          have ca : (w6.alloc (.cells #[Value.nilFunc] 76)).cell? ⟨w6.heap.size, 0, none⟩ = some Value.nilFunc := block_cell (alloc_block w6 (.cells #[Value.nilFunc] 76)) 0
          have za := block_frozen (alloc_block w6 (.cells #[Value.nilFunc] 76)) 0
          have Ha := hid (alloc_block w6 (.cells #[Value.nilFunc] 76))
          have HBa6 : Hid (Below wa.heap.size wa (w6.alloc (.cells #[Value.nilFunc] 76))) := HB6.out.alloc HB6.out.size _
          have HTa : Hid (Tst hd (i + 1) cs q k (w6.alloc (.cells #[Value.nilFunc] 76)) (.func (.func tf) #[] tc)) := HT6.out.kp (Kp.of ((Below.refl _ _).alloc (Nat.le_refl _) _)) (TyS.no _ _).ok
          have hb6 := HB6.out.size
          clear hT
          generalize w6.alloc (.cells #[Value.nilFunc] 76) = wz at *
          generalize w6.heap.size = tb at *
          refine wpAnyH_ready (rs := [9]) (by kernel_rfl) (by simp) ?_
          refine AllReadyH.cons rfl (fun K hK => ?_) AllReadyH.nil
          go_simp
          have hkz : Kp (fun b => b = tb) wz (wz.setCell ⟨tb, 0, none⟩ (.func (.func tf) #[] tc)) := Kp.set (T := fun k => k = tb) rfl _
          have hbz := block_set Ha.out 0 (.func (.func tf) #[] tc)
          have HX7 : Hid ((wz.setCell ⟨tb, 0, none⟩ (.func (.func tf) #[] tc)).heap[tb]? = some (.cells #[.func (.func tf) #[] tc] 76 (0, 0))) := by show _ = _; simpa using hbz
          have HT7 : Hid (Tst hd (i + 1) cs q k (wz.setCell ⟨tb, 0, none⟩ (.func (.func tf) #[] tc)) (.func (.func tf) #[] tc)) := HTa.out.kp hkz (fun b e => ⟨by have := HHa.out _ (Below.refl _ _); omega, fun c t fz hc => by subst e; rw [Ha.out] at hc; simp only [Option.some.injEq, Obj.cells.injEq] at hc; exact .inr (.inr (.inr hc.2.1.symm))⟩)
          have HB7 : Hid (Below wa.heap.size wa (wz.setCell ⟨tb, 0, none⟩ (.func (.func tf) #[] tc))) := HBa6.out.trans (hkz.below HBa6.out.size (fun b e => by omega))
          have HA7 : Hid ((wz.setCell ⟨tb, 0, none⟩ (.func (.func tf) #[] tc)).heap[ab]? = some (.cells #[.int .i64 (k : Int)] 3 (0, 0))) := block_on HAb.out HB7.out
          refine hK.out _ _ (snB hS0 HB7.out) (fun hT => ?_)
          clear hK hbz hkz ca za
          try go_frame
          refine wpAnyH_done (by kernel_rfl) ?_ _
          generalize wz.setCell ⟨tb, 0, none⟩ (.func (.func tf) #[] tc) = w7 at *
          have HB7r : Hid (Below wr.heap.size wr w7) := by show Below _ _ _; rw [HWr.out]; exact HBa.out.trans (HB7.out.mono (by have := HABl.out; omega))
          have HL7 : Hid (Lp B hd hvb sb W5.heap.size cs qs i nl k W5 w7 svs sv) := ⟨HLp.out.kp.trans (Kp.of HB7r.out), block_on HLp.out.sb HB7r.out, HLp.out.own.on HB7r.out, HLp.out.len, fun j a v q' h1 h2 h3 => (HLp.out.stp j a v q' h1 h2 h3).kp (Kp.of HB7r.out) (TyS.no _ _)⟩
          have HSt : Hid (Stp hd (i + 1) hvb cs q k w7 (.func (.func 61) #[] #[dp tb, dp hvb, dp ab])) := ⟨tb, ab, _, rfl, HX7.out, HA7.out, HT7.out⟩
          have HSb : Hid (hd ≤ sb ∧ sb < W5.heap.size) := ⟨by omega, by omega⟩
          have ysb : w7.cell? ⟨sb, 0, none⟩ = some sv := block_cell HL7.out.sb 0
          have zsb := block_frozen HL7.out.sb 0
          have hs57 := HL7.out.kp.size
          have hsv : svs.length ≤ 1000 := by have := HL7.out.len; have := lsN_le nl k; have := HKI.out; omega
          obtain ⟨psv, csv, rfl⟩ := HL7.out.own.form
          clear hT hS0
          go_wp2_with (at_builtin; refine app_A elem_fn (fun _ => rfl) (by intro y hy c hc; simp at hy hc; subst hc; subst hy; rfl) rfl _ _ rfl rfl (HL7.out.own.on ((Below.refl _ _).alloc (Nat.le_refl _) _)) rfl (Own.sl (Own.blk (enc := fn1) (k := 1) (e := 106) (B := w7.heap.size) (w := w7.alloc (.cells #[.func (.func 61) #[] #[dp tb, dp hvb, dp ab]] 106)) (xs := [.func (.func 61) #[] #[dp tb, dp hvb, dp ab]]) (fun _ => rfl) (Nat.le_refl _) (alloc_block w7 _) (by unfold maxLen; simp)) (fun _ => rfl)) (by simp) (by simp; omega) (by decide) (by simp; omega) ?_; intro v5 w8 ho hg hat; obtain ⟨y8, z8⟩ := HL7.out.sb8 HSb.out hg; have HN8 := hid (HL7.out.next HF.out HX.out HSt.out HSb.out ho hg); obtain ⟨p5, c5, rfl⟩ := ho.form; have HO8 := hid ho; clear ho hg hat)
          go_roundw
          case rel =>
            have h8 := HN8.out
            rw [show (svs ++ [Value.func (.func 61) #[] #[dp tb, dp hvb, dp ab]]).length = svs.length + 1 by simp] at h8
            exact ⟨k + 1, by have := HKI.out; omega, by go_num, _, _, h8⟩
          case measure => simp [intOf]; have := HKI.out; omega
        · go_simp
          have Hy : Hid ((wa.alloc (.cells #[Value.nilFunc] 76)).drew.heap[wa.heap.size]? = some (.cells #[Value.nilFunc] 76 (0, 0))) := alloc_block wa _
          have HBy : Hid (Below wa.heap.size wa (wa.alloc (.cells #[Value.nilFunc] 76)).drew) := ((Below.refl _ _).alloc (Nat.le_refl _) _).drew
          refine hK.out _ _ (snB hS0 HBy.out) (fun hT => ?_)
          clear hK
          try go_frame
          have hb6 : wa.heap.size ≤ wa.heap.size := Nat.le_refl _
          clear hT
          have hT := snB hS0 HBy.out
          generalize (wa.alloc (.cells #[Value.nilFunc] 76)).drew = wy at *
          refine wpAnyH_ready (rs := [7]) (by kernel_rfl) (by simp) ?_
          refine AllReadyH.cons rfl (fun K hK => ?_) AllReadyH.nil
          refine step_call4 (v1 := .agg q.cells.toArray) (v2 := .int .i64 (k : Int)) (v3 := cv) (v4 := slB hd (i + 1)) rfl 36 37 38 39 44 3 22 102 rfl (by simp [Act.eval]) (by simp [Act.eval]) (by simp [Act.eval]) (by simp [Act.eval]) enters_nt ?_
          refine (nodeTest_any (HCa.out _ HBy.out) (HQa.out _ HBy.out) (HHa.out _ HBy.out) HKI.out).mono ?_
          rintro e wz ⟨tv, rfl, h0, h1, h2⟩
          obtain ⟨tf, tc, rfl⟩ := h1.form
          refine ⟨_, rfl, ?_⟩
          have HBa6 : Hid (Below wa.heap.size wa wz) := HBy.out.trans (h2.mono HBy.out.size)
          have HTa := hid h1
          have Ha := hid (block_on Hy.out h2)
          have ca : wz.cell? ⟨wa.heap.size, 0, none⟩ = some Value.nilFunc := block_cell Ha.out 0
          have za := block_frozen Ha.out 0
          refine hK.out _ _ (snB hS0 HBa6.out) (fun hT => ?_)
          clear hK h1 h2
          try go_frame
          clear hT
          have hT := snB hS0 HBa6.out
          refine wpAnyH_ready (rs := [9]) (by kernel_rfl) (by simp) ?_
          refine AllReadyH.cons rfl (fun K hK => ?_) AllReadyH.nil
          go_simp
          have hkz : Kp (fun b => b = wa.heap.size) wz (wz.setCell ⟨wa.heap.size, 0, none⟩ (.func (.func tf) #[] tc)) := Kp.set (T := fun k => k = wa.heap.size) rfl _
          have hbz := block_set Ha.out 0 (.func (.func tf) #[] tc)
          have HX7 : Hid ((wz.setCell ⟨wa.heap.size, 0, none⟩ (.func (.func tf) #[] tc)).heap[wa.heap.size]? = some (.cells #[.func (.func tf) #[] tc] 76 (0, 0))) := by show _ = _; simpa using hbz
          have HT7 : Hid (Tst hd (i + 1) cs q k (wz.setCell ⟨wa.heap.size, 0, none⟩ (.func (.func tf) #[] tc)) (.func (.func tf) #[] tc)) := HTa.out.kp hkz (fun b e => ⟨by have := HHa.out _ (Below.refl _ _); omega, fun c t fz hc => by subst e; rw [Ha.out] at hc; simp only [Option.some.injEq, Obj.cells.injEq] at hc; exact .inr (.inr (.inr hc.2.1.symm))⟩)
          have HB7 : Hid (Below wa.heap.size wa (wz.setCell ⟨wa.heap.size, 0, none⟩ (.func (.func tf) #[] tc))) := HBa6.out.trans (hkz.below HBa6.out.size (fun b e => by omega))
          have HA7 : Hid ((wz.setCell ⟨wa.heap.size, 0, none⟩ (.func (.func tf) #[] tc)).heap[ab]? = some (.cells #[.int .i64 (k : Int)] 3 (0, 0))) := block_on HAb.out HB7.out
          refine hK.out _ _ (snB hS0 HB7.out) (fun hT => ?_)
          clear hK hbz hkz ca za
          try go_frame
          refine wpAnyH_done (by kernel_rfl) ?_ _
          generalize wz.setCell ⟨wa.heap.size, 0, none⟩ (.func (.func tf) #[] tc) = w7 at *
          have HB7r : Hid (Below wr.heap.size wr w7) := by show Below _ _ _; rw [HWr.out]; exact HBa.out.trans (HB7.out.mono (by have := HABl.out; omega))
          have HL7 : Hid (Lp B hd hvb sb W5.heap.size cs qs i nl k W5 w7 svs sv) := ⟨HLp.out.kp.trans (Kp.of HB7r.out), block_on HLp.out.sb HB7r.out, HLp.out.own.on HB7r.out, HLp.out.len, fun j a v q' h1 h2 h3 => (HLp.out.stp j a v q' h1 h2 h3).kp (Kp.of HB7r.out) (TyS.no _ _)⟩
          have HSt : Hid (Stp hd (i + 1) hvb cs q k w7 (.func (.func 61) #[] #[dp wa.heap.size, dp hvb, dp ab])) := ⟨wa.heap.size, ab, _, rfl, HX7.out, HA7.out, HT7.out⟩
          have HSb : Hid (hd ≤ sb ∧ sb < W5.heap.size) := ⟨by omega, by omega⟩
          have ysb : w7.cell? ⟨sb, 0, none⟩ = some sv := block_cell HL7.out.sb 0
          have zsb := block_frozen HL7.out.sb 0
          have hs57 := HL7.out.kp.size
          have hsv : svs.length ≤ 1000 := by have := HL7.out.len; have := lsN_le nl k; have := HKI.out; omega
          obtain ⟨psv, csv, rfl⟩ := HL7.out.own.form
          clear hT hS0
          go_wp2_with (at_builtin; refine app_A elem_fn (fun _ => rfl) (by intro y hy c hc; simp at hy hc; subst hc; subst hy; rfl) rfl _ _ rfl rfl (HL7.out.own.on ((Below.refl _ _).alloc (Nat.le_refl _) _)) rfl (Own.sl (Own.blk (enc := fn1) (k := 1) (e := 106) (B := w7.heap.size) (w := w7.alloc (.cells #[.func (.func 61) #[] #[dp wa.heap.size, dp hvb, dp ab]] 106)) (xs := [.func (.func 61) #[] #[dp wa.heap.size, dp hvb, dp ab]]) (fun _ => rfl) (Nat.le_refl _) (alloc_block w7 _) (by unfold maxLen; simp)) (fun _ => rfl)) (by simp) (by simp; omega) (by decide) (by simp; omega) ?_; intro v5 w8 ho hg hat; obtain ⟨y8, z8⟩ := HL7.out.sb8 HSb.out hg; have HN8 := hid (HL7.out.next HF.out HX.out HSt.out HSb.out ho hg); obtain ⟨p5, c5, rfl⟩ := ho.form; have HO8 := hid ho; clear ho hg hat)
          go_roundw
          case rel =>
            have h8 := HN8.out
            rw [show (svs ++ [Value.func (.func 61) #[] #[dp wa.heap.size, dp hvb, dp ab]]).length = svs.length + 1 by simp] at h8
            exact ⟨k + 1, by have := HKI.out; omega, by go_num, _, _, h8⟩
          case measure => simp [intOf]; have := HKI.out; omega
    · have hki : k = i + 1 := by omega
      have kI : ¬ (k : Int) < (i : Int) + 1 := by omega
      have hA := lsN_ats HNl.out
      have hne : 0 < svs.length := by
        rw [hL.len, hki]
        exact List.length_pos_of_mem hA.top
      have HP : Hid (CnP cs qs i w (.returned (.func (.func 62) #[] #[dp sb, dp hvb, dp B])) wr) := by
        rcases hL.own.2 with ⟨-, h0⟩ | ⟨sg, cap, cur, hv, hgB, hblk, -⟩
        · omega
        · have hw : Below w.heap.size w wr := by
            have h1 := hL.kp.below (B := w.heap.size) (by have := HBw.out.size; omega) (fun b e => by omega)
            exact HBw.out.trans h1
          refine ⟨hd, hvb, sb, B, sg, cap, svs, lsN nl (i + 1), List.replicate (i + 1) false, rfl, ⟨⟨by omega, by omega, by omega, by omega⟩, block_cell (hL.kp.blk X3.out (by omega)) 0, ?_, block_cell (hL.kp.blk X1.out (by omega)) 0, ?_, ⟨by rw [← hki]; exact hL.len, lsN_le _ _⟩, hA, ⟨by have := HI.out; have := HM.out; omega, hs⟩, ?_⟩, hL.kp.blk X2.out (by omega), by rw [List.length_replicate], by omega, hw⟩
          · have := block_cell hL.sb 0
            rw [this, hv]; rfl
          · intro j v hj
            have h2 := World.ownsRow.cells hL.own (g := sg) (by rw [hv]; rfl) j v (by
              have := flat_get (enc := fn1) (k := 1) (fun _ => rfl) svs j v hj 0 v rfl
              simpa using this)
            rwa [Addr.add_lit, Nat.zero_add] at h2
          · intro j a v q h1 h2 h3
            rw [← hki] at h1
            exact hL.stp j a v q h1 h2 h3
      clear hL hA hne hki hBw hB1 hB2 hB3 hs4 hs5 hkl
      go_wp2_with fail
      go_ret
      exact HP.out
end Go.Proofs.Ytjekpclbedbaoaa.PD
namespace Go.Proofs.Ytjekpclbedbaoaa.PD
open Go.RowKit Go.Joins

set_option maxRecDepth 100000 in
set_option maxHeartbeats 1000000 in
theorem cnd_never {nv cv : Value} {qs : List Nx} {i : Int} {w : World} {Q : Nat → Prop} (hq : Qx Q w nv qs) (hi : i < 0 ∨ (qs.length : Int) ≤ i) : Calls Try.prog 32 #[nv, .int .i64 i, cv] w fun x w' => x = .returned (.func (.func 58) #[] #[]) ∧ Below w.heap.size w w' := by
  obtain ⟨p, c, rfl, hc1, hc2⟩ := hq.sl.form
  obtain ⟨m, hm⟩ : ∃ m, qs.length = m := ⟨_, rfl⟩
  have HM := hid hm
  rw [hm] at hi
  clear hq hc1
  have HB : Hid (Below w.heap.size w (w.alloc (.cells #[.int .i64 i] 3))) := (Below.refl _ _).alloc (Nat.le_refl _) _
  by_cases h0 : i < 0
  · clear hi
    go_enter Try.func32, Try.ntmps32
    rw [HM.out]
    go_wp2_with fail
    go_ret
    exact ⟨rfl, HB.out⟩
  · have h1 : (m : Int) ≤ i := by omega
    clear hi
    go_enter Try.func32, Try.ntmps32
    rw [HM.out]
    go_wp2_with fail
    go_ret
    exact ⟨rfl, HB.out⟩
theorem row_lt {w : World} {v : Value} {row : TN.Rw} (h : TN.RowAt w v row) : TN.RowIn (fun b => b < w.heap.size) w v row := by
  obtain ⟨p, cap, hv, hc, hm, hx⟩ := h
  refine ⟨p, cap, hv, hc, hm, fun hne => ?_⟩
  obtain ⟨b, o, hp, hQ, hj⟩ := hx hne
  refine ⟨b, o, hp, ⟨?_, hQ.2⟩, hj⟩
  match row, hne with
  | x :: r, _ => exact block_lt_of_cell (hj 0 x rfl 0 _ rfl)
theorem mx_pos {w : World} (h : Mx w) : 0 < w.heap.size := by
  obtain ⟨m, hm⟩ := h
  have := block_lt_of_cell hm
  omega
theorem qx_lt {w w' : World} {nv : Value} {qs : List Nx} (h : Qx (fun b => b < w.heap.size) w nv qs) (hb : Below w.heap.size w w') : Qx (fun b => b < w'.heap.size) w' nv qs := by
  have hs := hb.size
  refine ⟨(h.sl.on hb).imp (fun b hb => by omega), fun q hq => ?_⟩
  have h2 := (h.each q hq).kp (Kp.of hb) (T := fun _ => False) (fun _ _ => id)
  exact ⟨h2.l.imp (fun b hb => by omega), h2.n.imp (fun b hb => by omega), h2.g.imp (fun b hb => by omega)⟩
set_option maxRecDepth 100000 in
set_option maxHeartbeats 2000000 in
theorem holds_any {nv cv rv : Value} {qs : List Nx} {cs : List TN.Cl} {row : TN.Rw} {w : World} (i : Int) (hq : Qx (fun b => b < w.heap.size) w nv qs) (hl : qs.length ≤ 1000) (hc : TN.ColsAt w cv cs) (hr : TN.RowAt w rv row) (hM : Mx w) (hz : ∀ q ∈ qs, q.np.kind = 15 → Rsz row) : Calls Try.prog 17 #[.agg #[nv], .int .i64 i, cv, rv] w fun x w' => x = .returned (.bool (holdsX cs qs i row)) ∧ Below w.heap.size w w' := by
  have hb1 : Below w.heap.size w (w.alloc (.cells #[nv] 34)) := (Below.refl _ _).alloc (Nat.le_refl _) _
  have hN : (w.alloc (.cells #[nv] 34)).heap[w.heap.size]? = some (.cells #[nv] 34 (0, 0)) := alloc_block _ _
  have y0 : (w.alloc (.cells #[nv] 34)).cell? ⟨w.heap.size, 0, none⟩ = some nv := block_cell hN 0
  have HB1 := hid hb1
  have HQ := hid (qx_lt hq hb1)
  have HC := hid (hc.on hb1)
  have HR := hid ((row_lt hr).on hb1)
  have HM := hid (hM.on hb1)
  have HZ := hid hz
  have HP := hid (mx_pos hM)
  have HL := hid hl
  obtain ⟨pn, cn, rfl, -, -⟩ := hq.sl.form
  by_cases hi : i < 0 ∨ (qs.length : Int) ≤ i
  · have HX := hid (holdsX_out (cs := cs) (row := row) hi)
    have HN := hid (cnd_never (cv := cv) HQ.out hi)
    clear hq hl hc hr hM hz hi hb1 hN
    go_enter Try.func17, Try.ntmps17
    go_wp2_with (first
      | (go_at_call 32; refine HN.out.mono ?_; rintro e w1 ⟨rfl, hb⟩; have HB2 := hid (HB1.out.trans (hb.mono HB1.out.size)); clear hb)
      | (go_at_call 58; refine (never_any _ _).mono ?_; rintro e w2 ⟨rfl, he⟩; replace he := he.symm; subst he))
    go_ret
    exact ⟨by rw [HX.out]; rfl, HB2.out⟩
  · obtain ⟨n, rfl⟩ : ∃ n : Nat, i = n := ⟨i.toNat, by omega⟩
    have HN := hid (cnd_make (i := n) HQ.out (by omega) (by omega) HC.out)
    clear hq hl hc hr hM hz hi hb1 hN
    go_enter Try.func17, Try.ntmps17
    go_upto_region 2 with (go_at_call 32; refine HN.out.mono ?_; rintro e w1 ⟨hd, hvb, sb, ib, sg, sc, svs, ls, hs, rfl, g1, g2, g3, g4, hb⟩; have hsz := HB1.out.size; have hbz := hb.size; have HRun := hid (cond_run g1 g2 g3 ((HR.out.on hb).imp (fun b hb2 => by omega)) (HM.out.on hb) (by have := HP.out; omega) HZ.out); have HB2 := hid (HB1.out.trans (hb.mono HB1.out.size)); have HG := hid g4; clear hb g1 g2 g3)
    go_wp2_with (go_at_call 62; refine HRun.out.mono ?_; rintro e w2 ⟨rfl, hk, -⟩; have HK := hid hk; clear hk)
    go_ret
    exact ⟨rfl, HB2.out.trans (HK.out.below (B := w.heap.size) (by omega) (fun b e => by have := HG.out; omega))⟩
end Go.Proofs.Ytjekpclbedbaoaa.PD
