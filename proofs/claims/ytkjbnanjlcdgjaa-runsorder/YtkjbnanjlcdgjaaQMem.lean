/-
  What stays while a run grows; rows of values in blocks of their own; append and calls as steps of a region.
-/
import Derived.Test.YtkjbnanjlcdgjaaQClone
import Derived.Deep.RegionLaw
import Derived.Lib.OwnKind
namespace Go.Proofs.Ytkjbnanjlcdgjaa
open Go.RowKit Go.Sort

/- What was there stays, but for the blocks of which T holds. -/
structure Kp (T : Nat → Prop) (w w' : World) : Prop where
  os : w'.os = w.os
  tape : w'.tape = w.tape
  output : w'.output = w.output
  size : w.heap.size ≤ w'.heap.size
  block : ∀ k, k < w.heap.size → ¬ T k → w'.heap[k]? = w.heap[k]?
theorem Kp.refl (T : Nat → Prop) (w : World) : Kp T w w := ⟨rfl, rfl, rfl, Nat.le_refl _, fun _ _ _ => rfl⟩
theorem Kp.of {T : Nat → Prop} {w w' : World} (h : Below w.heap.size w w') : Kp T w w' := ⟨h.os, h.tape, h.output, h.size, fun k hk _ => h.block k hk⟩
theorem Kp.below {T : Nat → Prop} {w w' : World} {B : Nat} (h : Kp T w w') (hB : B ≤ w.heap.size) (hT : ∀ k, T k → B ≤ k) : Below B w w' :=
  ⟨h.os, h.tape, h.output, h.size, fun k hk => h.block k (Nat.lt_of_lt_of_le hk hB) (fun t => by have := hT k t; omega)⟩
theorem Kp.trans {T : Nat → Prop} {a b c : World} (h : Kp T a b) (k : Kp T b c) : Kp T a c :=
  ⟨k.os.trans h.os, k.tape.trans h.tape, k.output.trans h.output, Nat.le_trans h.size k.size, fun i hi ht => (k.block i (Nat.lt_of_lt_of_le hi h.size) ht).trans (h.block i hi ht)⟩
theorem Kp.trans' {T T' : Nat → Prop} {a b c : World} (h : Kp T a b) (k : Kp T' b c) (ht : ∀ i, i < a.heap.size → T' i → T i) : Kp T a c :=
  ⟨k.os.trans h.os, k.tape.trans h.tape, k.output.trans h.output, Nat.le_trans h.size k.size, fun i hi hn => (k.block i (Nat.lt_of_lt_of_le hi h.size) (fun x => hn (ht i hi x))).trans (h.block i hi hn)⟩
theorem Kp.grown {T : Nat → Prop} {w w' : World} {row : Option Nat} (hg : w.grownBy w' row) (hr : ∀ k, row = some k → T k) : Kp T w w' :=
  ⟨hg.os, hg.tape, hg.output, hg.size, fun k hk ht => hg.block k hk (fun e => ht (hr k e.symm))⟩
theorem Kp.set {T : Nat → Prop} {w : World} {b i : Nat} (hT : T b) (u : Value) : Kp T w (w.setCell ⟨b, i, none⟩ u) :=
  ⟨rfl, rfl, rfl, by simp [World.setCell], fun k _ ht => Below.heap_setCell _ _ _ _ (fun e => ht (by rw [e]; exact hT))⟩
theorem Kp.blk {T : Nat → Prop} {w w' : World} {k : Nat} {o : Obj} (h : Kp T w w') (hk : w.heap[k]? = some o) (ht : ¬ T k) : w'.heap[k]? = some o := (h.block k (lt_of_block hk) ht).trans hk

/- A block of values, of which P holds. -/
def ty36 (P : Nat → Prop) (w : World) (k : Nat) : Prop := P k ∧ ∃ (c : Array Value) (fz : { z : Nat × Nat // z = (0, 0) }), w.heap[k]? = some (.cells c 36 fz.1)
theorem ty_kp {P T : Nat → Prop} {w w' : World} {k : Nat} (h : ty36 P w k) (hk : Kp T w w') (ht : ¬ T k) : ty36 P w' k := let ⟨p, c, fz, hc⟩ := h; ⟨p, c, fz, hk.blk hc ht⟩
theorem row_kp {P T : Nat → Prop} {w w' : World} {v : Value} {r : Rw} (h : RowIn (ty36 P w) w v r) (hk : Kp T w w') (ht : ∀ k, ty36 P w k → ¬ T k) : RowIn (ty36 P w') w' v r := by
  obtain ⟨p, cap, hv, hc, hm, hx⟩ := h
  refine ⟨p, cap, hv, hc, hm, fun hn => ?_⟩
  obtain ⟨b, o, hp, hQ, hj⟩ := hx hn
  have hb : w'.heap[b]? = w.heap[b]? := by
    obtain ⟨-, c, fz, hc⟩ := hQ.1
    exact hk.block b (lt_of_block hc) (ht b hQ.1)
  exact ⟨b, o, hp, ⟨ty_kp hQ.1 hk (ht b hQ.1), hQ.2⟩, fun j x hjx i u hu => (World.cell?_of_block (a := ⟨b, o + j * 11 + i, none⟩) hb).trans (hj j x hjx i u hu)⟩
theorem row_P {P P' : Nat → Prop} {w : World} {v : Value} {r : Rw} (h : RowIn (ty36 P w) w v r) (hp : ∀ k, k < w.heap.size → P k → P' k) : RowIn (ty36 P' w) w v r := h.imp (fun b hb => ⟨hp b (by obtain ⟨-, c, fz, hc⟩ := hb; exact lt_of_block hc) hb.1, hb.2⟩)
theorem own_kp {α : Type} {enc : α → List Value} {k e B : Nat} {T : Nat → Prop} {w w' : World} {v : Value} {xs : List α} (h : Own enc k e B w v xs) (hk : Kp T w w') (ht : ∀ g, v.ownBlock = some g → ¬ T g) : Own enc k e B w' v xs := by
  refine ⟨h.1, ?_⟩
  rcases h.2 with h0 | ⟨g, cap, cur, hv, hg, hblk, hc⟩
  · exact .inl h0
  · exact .inr ⟨g, cap, cur, hv, hg, hk.blk hblk (ht g (by rw [hv]; rfl)), hc⟩
theorem own_le {α : Type} {enc : α → List Value} {k e B B' : Nat} {w : World} {v : Value} {xs : List α} (h : Own enc k e B w v xs) (hb : B' ≤ B) : Own enc k e B' w v xs := by
  refine ⟨h.1, ?_⟩
  rcases h.2 with h0 | ⟨g, cap, cur, hv, hg, hblk, hc⟩
  · exact .inl h0
  · exact .inr ⟨g, cap, cur, hv, Nat.le_trans hb hg, hblk, hc⟩
theorem own_at {α : Type} {enc : α → List Value} {k e B : Nat} {w : World} {v : Value} {xs : List α} (h : Own enc k e B w v xs) {g : Nat} (hg : v.ownBlock = some g) : B ≤ g ∧ g < w.heap.size := World.ownsRow.lt h g hg
theorem own_kind {α : Type} {enc : α → List Value} {k e B : Nat} {w : World} {v : Value} {xs : List α} (h : Own enc k e B w v xs) {g : Nat} (hg : v.ownBlock = some g) : ∃ c fz, w.heap[g]? = some (.cells c e fz) := Lib.ownsRow_kind h g hg
theorem own_formN {α : Type} {enc : α → List Value} {k e B n : Nat} {w : World} {v : Value} {xs : List α} (h : Own enc k e B w v xs) (hn : xs.length = n) : ∃ p c, v = .slice p n c := by
  subst hn
  rcases h.2 with ⟨hv, h0⟩ | ⟨g, cap, cur, hv, hg, hblk, q⟩
  · exact ⟨none, 0, by rw [hv, h0]⟩
  · exact ⟨_, cap, hv⟩
/- append onto a row of the call's own, whatever its elements' size. -/
def ElemN (t e k N : Nat) : Prop := Try.prog.underlying t = some (.slice e) ∧ 0 < k ∧ ∃ i z, Try.prog.info? e = some i ∧ i.zero = some z ∧ i.size = k ∧ i.bytes ≤ N ∧ z.cells.size = k
theorem Elem.N {t e k : Nat} (h : Elem t e k) : ElemN t e k (bsz k) := h
theorem step_appN {ops : Array Oper} {o : Oper} {a : Act} {w : World} {K : Act → World → Prop} {Q : Exit → Act → World → Prop} {E : Prop} {α : Type} {enc : α → List Value} {k e t B N : Nat} {Qb : Nat → Prop} {xs ys : List α} {v u : Value}
    (hE : ElemN t e k N) (hk : ∀ x, (enc x).length = k) (h1 : ∀ y ∈ ys, ∀ c ∈ enc y, c.oneCell' = true) (hgd : o.guard = none) (s x : Operand) (ho : o.op = .call { callee := .builtin .append, args := #[s, x], argTypes := #[t, t] })
    (hs : a.eval s = v) (hx : a.eval x = u) (hown : Own enc k e B w v xs) (hu : SlAt Qb enc k w u ys) (hb : (xs.length + ys.length) * N ≤ 140737488355328) (hN : 1 ≤ N) (hB : B ≤ w.heap.size)
    (h : ∀ v' w', Own enc k e B w' v' (xs ++ ys) → w.grownBy w' v.ownBlock → K (a.put o.dst v') w') : if Region.wanted o (yielded ops a.tmps) = true then Oper.wp Try.prog o a w K Q else E := by
  have hw : Region.wanted o (yielded ops a.tmps) = true := by simp [Region.wanted, hgd]
  rw [if_pos hw]
  obtain ⟨ht, hkp, i0, z, hi, hz0, hz1, hz2, hzs⟩ := hE
  obtain ⟨p, cap, rfl, ⟨hcap, hnone⟩, hmax, hy⟩ := hu
  cases p with
  | none =>
    have hn : ys = [] := by
      cases ys with
      | nil => rfl
      | cons y r => obtain ⟨b, o, hp, _⟩ := hy (by simp); cases hp
    subst hn
    have hc := hnone rfl
    subst hc
    have hrun := run_append_owned_none (P := Try.prog) (w := w) B t o.type e i0 k ht hi v xs.length _ hown
    have hx' : a.eval x = .slice none 0 0 := by rw [hx]; rfl
    unfold Oper.wp
    simp [execOp, ho, resolve, invoke, builtin, hs, hx', hrun, Result.andThen]
    exact h v w (by rw [List.append_nil]; exact hown) ⟨rfl, rfl, rfl, Nat.le_refl _, fun _ _ _ => rfl⟩
  | some ad =>
    refine wp_append_own w s x t ho B e i0 z k i0.bytes ht hi hz0 hz1 rfl hzs hkp v xs.length _ hs hown ad ys.length cap (ys.flatMap enc) hx (flat_length hk ys) ?_ ?_ ?_ (Nat.le_trans (Nat.mul_le_mul_left _ hz2) hb) hB ?_
    · intro j c hj
      have hne : ys ≠ [] := by intro e; subst e; simp at hj
      obtain ⟨b, o, hp, _, hcell⟩ := hy hne
      have hp' : ad = ⟨b, o, none⟩ := Option.some.inj hp
      rw [hp', Addr.add_lit]
      exact flat_cells hk ys o hcell j c hj
    · intro c hc
      obtain ⟨y, hy', hcy⟩ := List.mem_flatMap.1 hc
      exact h1 y hy' c hcy
    · have : (xs.length + ys.length) * 1 ≤ (xs.length + ys.length) * N := Nat.mul_le_mul_left _ hN
      unfold maxLen; omega
    · intro v' w' h2 h3 h4
      refine h v' w' ?_ h3
      show w'.ownsRow B e k v' (xs ++ ys).length ((xs ++ ys).flatMap enc)
      rw [List.length_append, List.flatMap_append]; exact h2
theorem step_callC {ops : Array Oper} {o : Oper} {a : Act} {w : World} {K : Act → World → Prop} {Q : Exit → Act → World → Prop} {E : Prop} {f : FuncId} {v : Value} (hgd : o.guard = none) (x : Operand) (t : TypeId)
    (ho : o.op = .call { callee := .value (.func f), args := #[x], argTypes := #[t] }) (hx : a.eval x = v) (hen : ∀ args w, (callFunc f args).run Try.prog w = .ok (.enter f args) w)
    (hc : Calls Try.prog f #[v] w fun e w' => ∃ u, e = .returned u ∧ K (a.put o.dst u) w') : if Region.wanted o (yielded ops a.tmps) = true then Oper.wp Try.prog o a w K Q else E := by
  have hw : Region.wanted o (yielded ops a.tmps) = true := by simp [Region.wanted, hgd]
  rw [if_pos hw]
  unfold Oper.wp
  have hr : (execOp a.eval o).run Try.prog w = .ok (.enter f #[v]) w := by
    simp [execOp, ho, resolve, invoke, hen, go_sem]
    rw [← hx]
    cases x <;> simp [Act.eval]
  rw [hr, Oper.upon_enter]
  refine hc.mono ?_
  rintro e w' ⟨u, rfl, hk⟩
  exact hk
theorem own_rowT {P : Nat → Prop} {B : Nat} {w : World} {v : Value} {r : Rw} (h : Own Vl.cells 11 36 B w v r) (hP : ∀ k, B ≤ k → P k) (hl : List.length r * bsz 11 ≤ 140737488355328) : RowIn (ty36 P w) w v r := by
  have h0 := Own.sl h vl_len hl
  obtain ⟨p, cap, hv, hc, hm, hx⟩ := h0
  refine ⟨p, cap, hv, hc, hm, fun hn => ?_⟩
  obtain ⟨b, o, hp, hQ, hj⟩ := hx hn
  refine ⟨b, o, hp, ⟨⟨hP b hQ.1, ?_⟩, hQ.2⟩, hj⟩
  rcases h.2 with ⟨_, h1⟩ | ⟨g, cap', cur, hv', hg, hblk, q⟩
  · exact absurd (List.eq_nil_of_length_eq_zero h1) hn
  · rw [hv, hp] at hv'
    cases hv'
    exact ⟨_, ⟨(0, 0), rfl⟩, hblk⟩
theorem app_N {ops : Array Oper} {rest : List Oper} {o : Oper} {a : Act} {Q : Exit → Act → World → Prop} {w : World} {α : Type} {enc : α → List Value} {k e t B N : Nat} {Qb : Nat → Prop} {xs ys : List α} {v u : Value}
    (hE : ElemN t e k N) (hk : ∀ x, (enc x).length = k) (h1 : ∀ y ∈ ys, ∀ c ∈ enc y, c.oneCell' = true) (hgd : o.guard = none) (s x : Operand) (ho : o.op = .call { callee := .builtin .append, args := #[s, x], argTypes := #[t, t] })
    (hs : a.eval s = v) (hown : Own enc k e B w v xs) (hx : a.eval x = u) (hu : SlAt Qb enc k w u ys) (hb : (xs.length + ys.length) * N ≤ 140737488355328) (hN : 1 ≤ N) (hB : B ≤ w.heap.size)
    (h : ∀ v' w', Own enc k e B w' v' (xs ++ ys) → w.grownBy w' v.ownBlock → wpList Try.prog ops Q rest (a.put o.dst v') w') : wpList Try.prog ops Q (o :: rest) a w := by
  refine wpList_plain hgd fun K hK => ?_
  have := step_appN (ops := ops) (K := K) (Q := Q) (E := True) hE hk h1 hgd s x ho hs hx hown hu hb hN hB (fun v' w' h2 h3 => hK _ _ (h v' w' h2 h3))
  have hw : Region.wanted o (yielded ops a.tmps) = true := by simp [Region.wanted, hgd]
  rw [if_pos hw] at this
  exact this
theorem step_call3 {ops : Array Oper} {o : Oper} {a : Act} {w : World} {K : Act → World → Prop} {Q : Exit → Act → World → Prop} {E : Prop} {f : FuncId} {v v2 v3 : Value} (hgd : o.guard = none) (x y z : Operand) (t t2 t3 : TypeId)
    (ho : o.op = .call { callee := .value (.func f), args := #[x, y, z], argTypes := #[t, t2, t3] }) (hx : a.eval x = v) (hy : a.eval y = v2) (hz : a.eval z = v3) (hen : ∀ args w, (callFunc f args).run Try.prog w = .ok (.enter f args) w)
    (hc : Calls Try.prog f #[v, v2, v3] w fun e w' => ∃ u, e = .returned u ∧ K (a.put o.dst u) w') : if Region.wanted o (yielded ops a.tmps) = true then Oper.wp Try.prog o a w K Q else E := by
  have hw : Region.wanted o (yielded ops a.tmps) = true := by simp [Region.wanted, hgd]
  rw [if_pos hw]
  unfold Oper.wp
  have hr : (execOp a.eval o).run Try.prog w = .ok (.enter f #[v, v2, v3]) w := by
    simp [execOp, ho, resolve, invoke, hen, go_sem]
    rw [← hx, ← hy, ← hz]
    cases x <;> cases y <;> cases z <;> simp [Act.eval]
  rw [hr, Oper.upon_enter]
  refine hc.mono ?_
  rintro e w' ⟨u, rfl, hk⟩
  exact hk
end Go.Proofs.Ytkjbnanjlcdgjaa
