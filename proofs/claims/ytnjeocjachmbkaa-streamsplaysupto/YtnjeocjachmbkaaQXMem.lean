/-
  How a dictionary lies in memory, and what stays while one grows.
-/
import Derived.Test.YtnjeocjachmbkaaPD
import Derived.Test.YtnjeocjachmbkaaQTxt
import Derived.Maps.OwnSet
import Derived.Deep.RegionLaw
namespace Go.Proofs.Ytnjeocjachmbkaa
open Go.RowKit Go.Sort Go.Maps

/- What was there stays, but for the blocks of which T holds. -/
structure Kp (T : Nat → Prop) (w w' : World) : Prop where
  os : w'.os = w.os
  tape : w'.tape = w.tape
  output : w'.output = w.output
  size : w.heap.size ≤ w'.heap.size
  block : ∀ k, k < w.heap.size → ¬ T k → w'.heap[k]? = w.heap[k]?
theorem Kp.refl (T : Nat → Prop) (w : World) : Kp T w w := ⟨rfl, rfl, rfl, Nat.le_refl _, fun _ _ _ => rfl⟩
theorem Kp.of {T : Nat → Prop} {w w' : World} (h : Below w.heap.size w w') : Kp T w w' := ⟨h.os, h.tape, h.output, h.size, fun k hk _ => h.block k hk⟩
theorem Kp.below {T : Nat → Prop} {w w' : World} {B : Nat} (h : Kp T w w') (hB : B ≤ w.heap.size) (hT : ∀ k, T k → B ≤ k) : Below B w w' :=
  ⟨h.os, h.tape, h.output, h.size, fun k hk => h.block k (Nat.lt_of_lt_of_le hk hB) (fun t => by have := hT k t; omega)⟩
theorem Kp.trans {T : Nat → Prop} {a b c : World} (h : Kp T a b) (k : Kp T b c) : Kp T a c :=
  ⟨k.os.trans h.os, k.tape.trans h.tape, k.output.trans h.output, Nat.le_trans h.size k.size, fun i hi ht => (k.block i (Nat.lt_of_lt_of_le hi h.size) ht).trans (h.block i hi ht)⟩
theorem Kp.trans' {T T' : Nat → Prop} {a b c : World} (h : Kp T a b) (k : Kp T' b c) (ht : ∀ i, i < a.heap.size → T' i → T i) : Kp T a c :=
  ⟨k.os.trans h.os, k.tape.trans h.tape, k.output.trans h.output, Nat.le_trans h.size k.size, fun i hi hn => (k.block i (Nat.lt_of_lt_of_le hi h.size) (fun x => hn (ht i hi x))).trans (h.block i hi hn)⟩
theorem Kp.grown {T : Nat → Prop} {w w' : World} {row : Option Nat} (hg : w.grownBy w' row) (hr : ∀ k, row = some k → T k) : Kp T w w' :=
  ⟨hg.os, hg.tape, hg.output, hg.size, fun k hk ht => hg.block k hk (fun e => ht (hr k e.symm))⟩
theorem Kp.set {T : Nat → Prop} {w : World} {b i : Nat} (hT : T b) (u : Value) : Kp T w (w.setCell ⟨b, i, none⟩ u) :=
  ⟨rfl, rfl, rfl, by simp [World.setCell], fun k _ ht => Below.heap_setCell _ _ _ _ (fun e => ht (by rw [e]; exact hT))⟩
theorem Kp.blk {T : Nat → Prop} {w w' : World} {k : Nat} {o : Obj} (h : Kp T w w') (hk : w.heap[k]? = some o) (ht : ¬ T k) : w'.heap[k]? = some o := (h.block k (lt_of_block hk) ht).trans hk

structure Hd where
  nm : ByteArray
  kv : Value
instance : Inhabited Hd := ⟨⟨⟨#[]⟩, .slice none 0 0⟩⟩
def Hd.cells (h : Hd) : List Value := [.string h.nm, h.kv]
theorem hd_len (h : Hd) : h.cells.length = 2 := rfl
/- A block of values, of which P holds. -/
def ty25 (P : Nat → Prop) (w : World) (k : Nat) : Prop := P k ∧ ∃ c fz, w.heap[k]? = some (.cells c 25 fz)
theorem ty_kp {P T : Nat → Prop} {w w' : World} {k : Nat} (h : ty25 P w k) (hk : Kp T w w') (ht : ¬ T k) : ty25 P w' k := let ⟨p, c, fz, hc⟩ := h; ⟨p, c, fz, hk.blk hc ht⟩
theorem row_kp {P T : Nat → Prop} {w w' : World} {v : Value} {r : Rw} (h : RowIn (ty25 P w) w v r) (hk : Kp T w w') (ht : ∀ k, ty25 P w k → ¬ T k) : RowIn (ty25 P w') w' v r := by
  obtain ⟨p, cap, hv, hc, hm, hx⟩ := h
  refine ⟨p, cap, hv, hc, hm, fun hn => ?_⟩
  obtain ⟨b, o, hp, hQ, hj⟩ := hx hn
  have hb : w'.heap[b]? = w.heap[b]? := by
    obtain ⟨-, c, fz, hc⟩ := hQ.1
    exact hk.block b (lt_of_block hc) (ht b hQ.1)
  exact ⟨b, o, hp, ⟨ty_kp hQ.1 hk (ht b hQ.1), hQ.2⟩, fun j x hjx i u hu => (World.cell?_of_block (a := ⟨b, o + j * 11 + i, none⟩) hb).trans (hj j x hjx i u hu)⟩
theorem row_P {P P' : Nat → Prop} {w : World} {v : Value} {r : Rw} (h : RowIn (ty25 P w) w v r) (hp : ∀ k, k < w.heap.size → P k → P' k) : RowIn (ty25 P' w) w v r := h.imp (fun b hb => ⟨hp b (by obtain ⟨-, c, fz, hc⟩ := hb; exact lt_of_block hc) hb.1, hb.2⟩)
def HeadsD (P : Nat → Prop) (w : World) (hs : List Hd) (l : List Sm) : Prop := hs.length = l.length ∧ ∀ (j : Nat) h s, hs[j]? = some h → l[j]? = some s → h.nm = s.nm ∧ RowIn (ty25 P w) w h.kv s.ks
theorem HeadsD.kp {P T : Nat → Prop} {w w' : World} {hs : List Hd} {l : List Sm} (h : HeadsD P w hs l) (hk : Kp T w w') (ht : ∀ k, ty25 P w k → ¬ T k) : HeadsD P w' hs l :=
  ⟨h.1, fun j x s h1 h2 => ⟨(h.2 j x s h1 h2).1, row_kp (h.2 j x s h1 h2).2 hk ht⟩⟩
theorem HeadsD.P {P P' : Nat → Prop} {w : World} {hs : List Hd} {l : List Sm} (h : HeadsD P w hs l) (hp : ∀ k, k < w.heap.size → P k → P' k) : HeadsD P' w hs l :=
  ⟨h.1, fun j x s h1 h2 => ⟨(h.2 j x s h1 h2).1, row_P (h.2 j x s h1 h2).2 hp⟩⟩
theorem HeadsD.snoc {P : Nat → Prop} {w : World} {hs : List Hd} {l : List Sm} {h : Hd} {s : Sm} (hh : HeadsD P w hs l) (hn : h.nm = s.nm) (hr : RowIn (ty25 P w) w h.kv s.ks) : HeadsD P w (hs ++ [h]) (l ++ [s]) := by
  refine ⟨by simp [hh.1], fun j x q h1 h2 => ?_⟩
  by_cases hlt : j < hs.length
  · rw [List.getElem?_append_left hlt] at h1
    rw [List.getElem?_append_left (by rw [← hh.1]; exact hlt)] at h2
    exact hh.2 j x q h1 h2
  · have hj : j = hs.length := by have := (List.getElem?_eq_some_iff.1 h1).1; simp at this; omega
    subst hj
    rw [List.getElem?_append_right (Nat.le_refl _)] at h1
    rw [hh.1, List.getElem?_append_right (Nat.le_refl _)] at h2
    simp at h1 h2
    subst h1 h2
    exact ⟨hn, hr⟩
theorem own_kp {α : Type} {enc : α → List Value} {k e B : Nat} {T : Nat → Prop} {w w' : World} {v : Value} {xs : List α} (h : Own enc k e B w v xs) (hk : Kp T w w') (ht : ∀ g, v.ownBlock = some g → ¬ T g) : Own enc k e B w' v xs := by
  refine ⟨h.1, ?_⟩
  rcases h.2 with h0 | ⟨g, cap, cur, hv, hg, hblk, hc⟩
  · exact .inl h0
  · exact .inr ⟨g, cap, cur, hv, hg, hk.blk hblk (ht g (by rw [hv]; rfl)), hc⟩
theorem own_le {α : Type} {enc : α → List Value} {k e B B' : Nat} {w : World} {v : Value} {xs : List α} (h : Own enc k e B w v xs) (hb : B' ≤ B) : Own enc k e B' w v xs := by
  refine ⟨h.1, ?_⟩
  rcases h.2 with h0 | ⟨g, cap, cur, hv, hg, hblk, hc⟩
  · exact .inl h0
  · exact .inr ⟨g, cap, cur, hv, Nat.le_trans hb hg, hblk, hc⟩
theorem own_at {α : Type} {enc : α → List Value} {k e B : Nat} {w : World} {v : Value} {xs : List α} (h : Own enc k e B w v xs) {g : Nat} (hg : v.ownBlock = some g) : B ≤ g ∧ g < w.heap.size := World.ownsRow.lt h g hg
theorem own_kind {α : Type} {enc : α → List Value} {k e B : Nat} {w : World} {v : Value} {xs : List α} (h : Own enc k e B w v xs) {g : Nat} (hg : v.ownBlock = some g) : ∃ c fz, w.heap[g]? = some (.cells c e fz) := Lib.ownsRow_kind h g hg
theorem own_formN {α : Type} {enc : α → List Value} {k e B n : Nat} {w : World} {v : Value} {xs : List α} (h : Own enc k e B w v xs) (hn : xs.length = n) : ∃ p c, v = .slice p n c := by
  subst hn
  rcases h.2 with ⟨hv, h0⟩ | ⟨g, cap, cur, hv, hg, hblk, q⟩
  · exact ⟨none, 0, by rw [hv, h0]⟩
  · exact ⟨_, cap, hv⟩
/- What the map holds. -/
abbrev D1 := DataW Unit
def AgD (D : D1) (l : List Sm) : Prop := ∀ s, Gd s → Maps.has D (.string (txtL s)) = memS l s ∧ D.atKey (.string (txtL s)) (.lit (.int .i64 0)) = .lit (.int .i64 (findI l s))
theorem law9 : Keyed Try.prog 9 := string_keyed Try.underlying9
theorem zero3 (w : World) : (zeroValue 3).run Try.prog w = .ok (.int .i64 0) w := by kernel_rfl
theorem txt_data (s : Sm) : (txt s).data.toList = txtL s := rfl
theorem txtL_inj {s t : Sm} (hs : Gd s) (ht : Gd t) (h : txtL s = txtL t) : s = t := txt_inj hs ht (by unfold txt; rw [h])
theorem isKey (l : List UInt8) : WideAt.IsKeyLit (.string l) := trivial
theorem AgD.nil : AgD (.map []) [] := fun _ _ => ⟨rfl, rfl⟩
theorem AgD.put {D : D1} {l : List Sm} {s : Sm} (h : AgD D l) (hm : IsMap D) (hs : Gd s) (hn : s ∉ l) : AgD (D.put (.string (txtL s)) (.lit (.int .i64 (l.length : Int)))) (l ++ [s]) := by
  intro t ht
  by_cases e : t = s
  · subst e
    refine ⟨?_, ?_⟩
    · rw [has_put_same hm (isKey _)]
      simp [memS]
    · rw [atKey_put_same hm (isKey _)]
      unfold findI
      rw [if_pos (by simp), posS_new hn]
  · have hne : (Lit.string (txtL t)) ≠ .string (txtL s) := fun h => e (txtL_inj ht hs (by injection h))
    obtain ⟨h1, h2⟩ := h t ht
    refine ⟨?_, ?_⟩
    · rw [has_put_other hne, h1]
      simp [memS, e]
    · rw [atKey_put_other hne, h2]
      unfold findI
      by_cases hm : t ∈ l
      · rw [if_pos hm, if_pos (by simp [hm]), posS_app hm]
      · rw [if_neg hm, if_neg (by simp [hm, e])]
structure Dk (B : Nat) (P : Nat → Prop) (w : World) (b : Nat) (most : Int) (sv : Value) (m : Nat) (l : List Sm) : Prop where
  bB : B ≤ b
  mB : B ≤ m
  blk : w.heap[b]? = some (.cells #[.int .i64 most, sv, .map (some m)] 80)
  row : ∃ hs, Own Hd.cells 2 83 B w sv hs ∧ HeadsD P w hs l
  map : ∃ D : D1, w.ownsMap Try.prog 9 (plainElem Try.prog 3) m l.length D ∧ AgD D l
  dc : Dc l
def Tc (b : Nat) (sv : Value) (m : Nat) (k : Nat) : Prop := k = b ∨ sv.ownBlock = some k ∨ k = m
theorem map_blk {w : World} {m n : Nat} {D : D1} (h : w.ownsMap Try.prog 9 (plainElem Try.prog 3) m n D) : ∃ es c, w.heap[m]? = some (.map es c) := let ⟨es, c, hb, _⟩ := h; ⟨es, c, hb⟩
theorem map_kp {T : Nat → Prop} {w w' : World} {m n : Nat} {D : D1} (h : w.ownsMap Try.prog 9 (plainElem Try.prog 3) m n D) (hk : Kp T w w') (ht : ¬ T m) : w'.ownsMap Try.prog 9 (plainElem Try.prog 3) m n D := by
  obtain ⟨es, c, hb, r⟩ := h
  exact ⟨es, c, hk.blk hb ht, r⟩
theorem Dk.kp {B : Nat} {P T : Nat → Prop} {w w' : World} {b : Nat} {most : Int} {sv : Value} {m : Nat} {l : List Sm} (h : Dk B P w b most sv m l) (hk : Kp T w w') (hb : ¬ T b) (hv : ∀ g, sv.ownBlock = some g → ¬ T g) (hm : ¬ T m) (ht : ∀ k, ty25 P w k → ¬ T k) : Dk B P w' b most sv m l := by
  obtain ⟨hs, ho, hh⟩ := h.row
  obtain ⟨D, hD, ha⟩ := h.map
  exact ⟨h.bB, h.mB, hk.blk h.blk hb, ⟨hs, own_kp ho hk hv, hh.kp hk ht⟩, ⟨D, map_kp hD hk hm, ha⟩, h.dc⟩
theorem Dk.on {B : Nat} {P : Nat → Prop} {w w' : World} {b : Nat} {most : Int} {sv : Value} {m : Nat} {l : List Sm} (h : Dk B P w b most sv m l) (hb : Below w.heap.size w w') : Dk B P w' b most sv m l :=
  h.kp (T := fun _ => False) (Kp.of hb) id (fun _ _ => id) id (fun _ _ => id)
theorem Dk.P {B : Nat} {P P' : Nat → Prop} {w : World} {b : Nat} {most : Int} {sv : Value} {m : Nat} {l : List Sm} (h : Dk B P w b most sv m l) (hp : ∀ k, k < w.heap.size → P k → P' k) : Dk B P' w b most sv m l := by
  obtain ⟨hs, ho, hh⟩ := h.row
  exact ⟨h.bB, h.mB, h.blk, ⟨hs, ho, hh.P hp⟩, h.map, h.dc⟩
theorem Dk.T_ge {B : Nat} {P : Nat → Prop} {w : World} {b : Nat} {most : Int} {sv : Value} {m : Nat} {l : List Sm} (h : Dk B P w b most sv m l) : ∀ k, Tc b sv m k → B ≤ k := by
  obtain ⟨hs, ho, hh⟩ := h.row
  intro k hk
  rcases hk with rfl | hk | rfl
  · exact h.bB
  · exact (own_at ho hk).1
  · exact h.mB
theorem Dk.T_lt {B : Nat} {P : Nat → Prop} {w : World} {b : Nat} {most : Int} {sv : Value} {m : Nat} {l : List Sm} (h : Dk B P w b most sv m l) : ∀ k, Tc b sv m k → k < w.heap.size := by
  obtain ⟨hs, ho, hh⟩ := h.row
  obtain ⟨D, hD, ha⟩ := h.map
  intro k hk
  rcases hk with rfl | hk | rfl
  · exact lt_of_block h.blk
  · exact (own_at ho hk).2
  · exact hD.lt
theorem Dk.T_not {B : Nat} {P : Nat → Prop} {w : World} {b : Nat} {most : Int} {sv : Value} {m : Nat} {l : List Sm} (h : Dk B P w b most sv m l) {k : Nat} {cs : Array Value} {t : TypeId} {fz : Nat × Nat} (hk : w.heap[k]? = some (.cells cs t fz)) (h1 : t ≠ 80) (h2 : t ≠ 83) : ¬ Tc b sv m k := by
  obtain ⟨hs, ho, hh⟩ := h.row
  obtain ⟨D, hD, ha⟩ := h.map
  rintro (rfl | hg | rfl)
  · rw [h.blk] at hk; cases hk; exact h1 rfl
  · obtain ⟨c, f, hc⟩ := own_kind ho hg
    rw [hc] at hk; cases hk; exact h2 rfl
  · obtain ⟨es, c, hb⟩ := map_blk hD
    rw [hb] at hk; cases hk
/- append onto a row of the call's own, whatever its elements' size. -/
def ElemN (t e k N : Nat) : Prop := Try.prog.underlying t = some (.slice e) ∧ 0 < k ∧ ∃ i z, Try.prog.info? e = some i ∧ i.zero = some z ∧ i.size = k ∧ i.bytes ≤ N ∧ z.cells.size = k
theorem info83 : (Try.prog.info? 83).map (fun i => (i.zero, i.size, i.bytes)) = some (some (.agg #[.string ⟨#[]⟩, .slice none 0 0]), 2, 40) := by kernel_rfl
theorem info53 : (Try.prog.info? 53).map (fun i => (i.zero, i.size, i.bytes)) = some (some (.agg #[.string ⟨#[]⟩, .slice none 0 0]), 2, 40) := by kernel_rfl
theorem elem83 : ElemN 78 83 2 40 := by
  obtain ⟨i, hi, h0, h1, h2⟩ := info_parts info83
  exact ⟨Try.underlying78, by omega, i, _, hi, h0, h1, Nat.le_of_eq h2, rfl⟩
theorem elem53 : ElemN 37 53 2 40 := by
  obtain ⟨i, hi, h0, h1, h2⟩ := info_parts info53
  exact ⟨Try.underlying37, by omega, i, _, hi, h0, h1, Nat.le_of_eq h2, rfl⟩
theorem Elem.N {t e k : Nat} (h : Elem t e k) : ElemN t e k (bsz k) := h
theorem step_appN {ops : Array Oper} {o : Oper} {a : Act} {w : World} {K : Act → World → Prop} {Q : Exit → Act → World → Prop} {E : Prop} {α : Type} {enc : α → List Value} {k e t B N : Nat} {Qb : Nat → Prop} {xs ys : List α} {v u : Value}
    (hE : ElemN t e k N) (hk : ∀ x, (enc x).length = k) (h1 : ∀ y ∈ ys, ∀ c ∈ enc y, c.oneCell' = true) (hgd : o.guard = none) (s x : Operand) (ho : o.op = .call { callee := .builtin .append, args := #[s, x], argTypes := #[t, t] })
    (hs : a.eval s = v) (hx : a.eval x = u) (hown : Own enc k e B w v xs) (hu : SlAt Qb enc k w u ys) (hb : (xs.length + ys.length) * N ≤ 140737488355328) (hN : 1 ≤ N) (hB : B ≤ w.heap.size)
    (h : ∀ v' w', Own enc k e B w' v' (xs ++ ys) → w.grownBy w' v.ownBlock → K (a.put o.dst v') w') : if Region.wanted o (yielded ops a.tmps) = true then Oper.wp Try.prog o a w K Q else E := by
  have hw : Region.wanted o (yielded ops a.tmps) = true := by simp [Region.wanted, hgd]
  rw [if_pos hw]
  obtain ⟨ht, hkp, i0, z, hi, hz0, hz1, hz2, hzs⟩ := hE
  obtain ⟨p, cap, rfl, ⟨hcap, hnone⟩, hmax, hy⟩ := hu
  cases p with
  | none =>
    have hn : ys = [] := by
      cases ys with
      | nil => rfl
      | cons y r => obtain ⟨b, o, hp, _⟩ := hy (by simp); cases hp
    subst hn
    have hc := hnone rfl
    subst hc
    have hrun := run_append_owned_none (P := Try.prog) (w := w) B t o.type e i0 k ht hi v xs.length _ hown
    have hx' : a.eval x = .slice none 0 0 := by rw [hx]; rfl
    unfold Oper.wp
    simp [execOp, ho, resolve, invoke, builtin, hs, hx', hrun, Result.andThen]
    exact h v w (by rw [List.append_nil]; exact hown) ⟨rfl, rfl, rfl, Nat.le_refl _, fun _ _ _ => rfl⟩
  | some ad =>
    refine wp_append_own w s x t ho B e i0 z k i0.bytes ht hi hz0 hz1 rfl hzs hkp v xs.length _ hs hown ad ys.length cap (ys.flatMap enc) hx (flat_length hk ys) ?_ ?_ ?_ (Nat.le_trans (Nat.mul_le_mul_left _ hz2) hb) hB ?_
    · intro j c hj
      have hne : ys ≠ [] := by intro e; subst e; simp at hj
      obtain ⟨b, o, hp, _, hcell⟩ := hy hne
      have hp' : ad = ⟨b, o, none⟩ := Option.some.inj hp
      rw [hp', Addr.add_lit]
      exact flat_cells hk ys o hcell j c hj
    · intro c hc
      obtain ⟨y, hy', hcy⟩ := List.mem_flatMap.1 hc
      exact h1 y hy' c hcy
    · have : (xs.length + ys.length) * 1 ≤ (xs.length + ys.length) * N := Nat.mul_le_mul_left _ hN
      unfold maxLen; omega
    · intro v' w' h2 h3 h4
      refine h v' w' ?_ h3
      show w'.ownsRow B e k v' (xs ++ ys).length ((xs ++ ys).flatMap enc)
      rw [List.length_append, List.flatMap_append]; exact h2
theorem step_callC {ops : Array Oper} {o : Oper} {a : Act} {w : World} {K : Act → World → Prop} {Q : Exit → Act → World → Prop} {E : Prop} {f : FuncId} {v : Value} (hgd : o.guard = none) (x : Operand) (t : TypeId)
    (ho : o.op = .call { callee := .value (.func f), args := #[x], argTypes := #[t] }) (hx : a.eval x = v) (hen : ∀ args w, (callFunc f args).run Try.prog w = .ok (.enter f args) w)
    (hc : Calls Try.prog f #[v] w fun e w' => ∃ u, e = .returned u ∧ K (a.put o.dst u) w') : if Region.wanted o (yielded ops a.tmps) = true then Oper.wp Try.prog o a w K Q else E := by
  have hw : Region.wanted o (yielded ops a.tmps) = true := by simp [Region.wanted, hgd]
  rw [if_pos hw]
  unfold Oper.wp
  have hr : (execOp a.eval o).run Try.prog w = .ok (.enter f #[v]) w := by
    simp [execOp, ho, resolve, invoke, hen, go_sem]
    rw [← hx]
    cases x <;> simp [Act.eval]
  rw [hr, Oper.upon_enter]
  refine hc.mono ?_
  rintro e w' ⟨u, rfl, hk⟩
  exact hk
theorem own_rowT {P : Nat → Prop} {B : Nat} {w : World} {v : Value} {r : Rw} (h : Own Vl.cells 11 25 B w v r) (hP : ∀ k, B ≤ k → P k) (hl : List.length r * bsz 11 ≤ 140737488355328) : RowIn (ty25 P w) w v r := by
  have h0 := Own.sl h vl_len hl
  obtain ⟨p, cap, hv, hc, hm, hx⟩ := h0
  refine ⟨p, cap, hv, hc, hm, fun hn => ?_⟩
  obtain ⟨b, o, hp, hQ, hj⟩ := hx hn
  refine ⟨b, o, hp, ⟨⟨hP b hQ.1, ?_⟩, hQ.2⟩, hj⟩
  rcases h.2 with ⟨_, h1⟩ | ⟨g, cap', cur, hv', hg, hblk, q⟩
  · exact absurd (List.eq_nil_of_length_eq_zero h1) hn
  · rw [hv, hp] at hv'
    cases hv'
    exact ⟨_, _, hblk⟩
end Go.Proofs.Ytnjeocjachmbkaa
