/-
  Rows of a call's own, what stays, how the reader and its nodes lie in memory.
  What the reader's small functions return.
  What oneOf, how, agg, value and the two lists return.
  What agg, the two lists, lay and end do.
  What lay and end do.
-/
import Derived.Test.YtcidijjbcebcbaaKH01
import Derived.Deep.RegionHeld
import Derived.Deep.RegionHeld3
import Derived.Deep.RegionLaw
import Derived.Deep.MidRow
import Derived.Laws.AppendOwnNone
import Derived.OwnWalk
import Derived.Lib.SmallJoins
import Derived.Lib.OwnKind
import Derived.Lib.QuietBelow
import Derived.Shelf.Abstract
namespace Go.Proofs.Ytcidijjbcebcbaa
open Go.RowKit Go.Joins

structure Kp (T : Nat → Prop) (w w' : World) : Prop where
  os : w'.os = w.os
  tape : w'.tape = w.tape
  output : w'.output = w.output
  size : w.heap.size ≤ w'.heap.size
  block : ∀ k, k < w.heap.size → ¬ T k → w'.heap[k]? = w.heap[k]?
theorem Kp.refl (T : Nat → Prop) (w : World) : Kp T w w := ⟨rfl, rfl, rfl, Nat.le_refl _, fun _ _ _ => rfl⟩
theorem Kp.of {T : Nat → Prop} {w w' : World} (h : Below w.heap.size w w') : Kp T w w' := ⟨h.os, h.tape, h.output, h.size, fun k hk _ => h.block k hk⟩
theorem Kp.below {T : Nat → Prop} {w w' : World} {B : Nat} (h : Kp T w w') (hB : B ≤ w.heap.size) (hT : ∀ k, T k → B ≤ k) : Below B w w' :=
  ⟨h.os, h.tape, h.output, h.size, fun k hk => h.block k (Nat.lt_of_lt_of_le hk hB) (fun t => by have := hT k t; omega)⟩
theorem Kp.trans {T : Nat → Prop} {a b c : World} (h : Kp T a b) (k : Kp T b c) : Kp T a c :=
  ⟨k.os.trans h.os, k.tape.trans h.tape, k.output.trans h.output, Nat.le_trans h.size k.size, fun i hi ht => (k.block i (Nat.lt_of_lt_of_le hi h.size) ht).trans (h.block i hi ht)⟩
theorem Kp.trans' {T T' : Nat → Prop} {a b c : World} (h : Kp T a b) (k : Kp T' b c) (ht : ∀ i, i < a.heap.size → T' i → T i) : Kp T a c :=
  ⟨k.os.trans h.os, k.tape.trans h.tape, k.output.trans h.output, Nat.le_trans h.size k.size, fun i hi hn => (k.block i (Nat.lt_of_lt_of_le hi h.size) (fun x => hn (ht i hi x))).trans (h.block i hi hn)⟩
theorem Kp.imp {T T' : Nat → Prop} {a b : World} (h : Kp T a b) (ht : ∀ i, i < a.heap.size → T i → T' i) : Kp T' a b :=
  ⟨h.os, h.tape, h.output, h.size, fun i hi hn => h.block i hi (fun x => hn (ht i hi x))⟩
theorem Kp.grown {T : Nat → Prop} {w w' : World} {row : Option Nat} (hg : w.grownBy w' row) (hr : ∀ k, row = some k → T k) : Kp T w w' :=
  ⟨hg.os, hg.tape, hg.output, hg.size, fun k hk ht => hg.block k hk (fun e => ht (hr k e.symm))⟩
theorem Kp.set {T : Nat → Prop} {w : World} {b i : Nat} (hT : T b) (u : Value) : Kp T w (w.setCell ⟨b, i, none⟩ u) :=
  ⟨rfl, rfl, rfl, by simp [World.setCell], fun k _ ht => Below.heap_setCell _ _ _ _ (fun e => ht (by rw [e]; exact hT))⟩
theorem Kp.alloc (T : Nat → Prop) (w : World) (o : Obj) : Kp T w (w.alloc o) := Kp.of ((Below.refl _ _).alloc (Nat.le_refl _) o)
theorem Kp.drew (T : Nat → Prop) (w : World) : Kp T w w.drew := Kp.of (Below.refl _ _).drew
theorem Kp.blk {T : Nat → Prop} {w w' : World} {k : Nat} {o : Obj} (h : Kp T w w') (hk : w.heap[k]? = some o) (ht : ¬ T k) : w'.heap[k]? = some o := (h.block k (lt_of_block hk) ht).trans hk
theorem Kp.cell {T : Nat → Prop} {w w' : World} {k o : Nat} {v : Value} (h : Kp T w w') (hk : w.cell? ⟨k, o, none⟩ = some v) (ht : ¬ T k) : w'.cell? ⟨k, o, none⟩ = some v :=
  (World.cell?_of_block (a := ⟨k, o, none⟩) (h.block k (block_lt_of_cell hk) ht)).trans hk
abbrev dp (b : Nat) : Value := .pointer (some ⟨b, 0, none⟩)
def CellsAt (w : World) (b o : Nat) (xs : List Value) : Prop := ∀ (j : Nat) u, xs[j]? = some u → w.cell? ⟨b, o + j, none⟩ = some u
def SlAt {α : Type} (Q : Nat → Prop) (enc : α → List Value) (k : Nat) (w : World) (v : Value) (xs : List α) : Prop :=
  ∃ (p : Option Addr) (cap : Nat), v = .slice p xs.length cap ∧ (xs.length ≤ cap ∧ cap ≤ maxLen) ∧ (xs ≠ [] → ∃ b o, p = some ⟨b, o, none⟩ ∧ Q b ∧ ∀ (j : Nat) x, xs[j]? = some x → CellsAt w b (o + j * k) (enc x))
theorem CellsAt.kp {T : Nat → Prop} {w w' : World} {b o : Nat} {xs : List Value} (h : CellsAt w b o xs) (hk : Kp T w w') (ht : ¬ T b) : CellsAt w' b o xs := fun j u hj => hk.cell (h j u hj) ht
theorem SlAt.kp {α : Type} {Q T : Nat → Prop} {enc : α → List Value} {k : Nat} {w w' : World} {v : Value} {xs : List α} (h : SlAt Q enc k w v xs) (hk : Kp T w w') (ht : ∀ b, Q b → ¬ T b) : SlAt Q enc k w' v xs := by
  obtain ⟨p, cap, hv, hc, hx⟩ := h
  exact ⟨p, cap, hv, hc, fun hne => let ⟨b, o, hp, hQ, hj⟩ := hx hne; ⟨b, o, hp, hQ, fun j x hjx => (hj j x hjx).kp hk (ht b hQ)⟩⟩
theorem SlAt.on {α : Type} {Q : Nat → Prop} {enc : α → List Value} {k : Nat} {w w' : World} {v : Value} {xs : List α} (h : SlAt Q enc k w v xs) (hb : Below w.heap.size w w') : SlAt Q enc k w' v xs := h.kp (T := fun _ => False) (Kp.of hb) (fun _ _ => id)
theorem SlAt.imp {α : Type} {Q Q' : Nat → Prop} {enc : α → List Value} {k : Nat} {w : World} {v : Value} {xs : List α} (h : SlAt Q enc k w v xs) (hq : ∀ b, Q b → Q' b) : SlAt Q' enc k w v xs := by
  obtain ⟨p, cap, hv, hc, hx⟩ := h
  exact ⟨p, cap, hv, hc, fun hne => let ⟨b, o, hp, hQ, hj⟩ := hx hne; ⟨b, o, hp, hq b hQ, hj⟩⟩
theorem SlAt.form {α : Type} {Q : Nat → Prop} {enc : α → List Value} {k : Nat} {w : World} {v : Value} {xs : List α} (h : SlAt Q enc k w v xs) : ∃ p cap, v = .slice p xs.length cap ∧ xs.length ≤ cap ∧ cap ≤ maxLen := let ⟨p, cap, hv, hc, _⟩ := h; ⟨p, cap, hv, hc.1, hc.2⟩
theorem SlAt.at {α : Type} {Q : Nat → Prop} {enc : α → List Value} {k : Nat} {w : World} {p : Option Addr} {n cap : Nat} {xs : List α} (h : SlAt Q enc k w (.slice p n cap) xs) {j : Nat} {x : α} (hj : xs[j]? = some x) : ∃ b o, p = some ⟨b, o, none⟩ ∧ Q b ∧ CellsAt w b (o + j * k) (enc x) := by
  obtain ⟨p', cap', hv, _, hx⟩ := h
  cases hv
  obtain ⟨b, o, hp, hQ, hc⟩ := hx (by intro e; subst e; simp at hj)
  exact ⟨b, o, hp, hQ, hc j x hj⟩
section
variable {α : Type} {enc : α → List Value} {k : Nat}
theorem flat_get (hk : ∀ x, (enc x).length = k) : ∀ (xs : List α) (j : Nat) x, xs[j]? = some x → ∀ (i : Nat) u, (enc x)[i]? = some u → (xs.flatMap enc)[j * k + i]? = some u
  | [], _, _, h, _, _, _ => by simp at h
  | y :: ys, 0, x, h, i, u, hi => by
    simp at h; subst h
    rw [List.flatMap_cons, Nat.zero_mul, Nat.zero_add, List.getElem?_append_left (by exact (List.getElem?_eq_some_iff.1 hi).1)]
    exact hi
  | y :: ys, j + 1, x, h, i, u, hi => by
    have ih := flat_get hk ys j x (by simpa using h) i u hi
    have e : (j + 1) * k + i = k + (j * k + i) := by rw [Nat.succ_mul]; omega
    rw [List.flatMap_cons, List.getElem?_append_right (by rw [hk]; omega), hk, e, Nat.add_sub_cancel_left]
    exact ih
theorem flat_cells (hk : ∀ x, (enc x).length = k) {w : World} {b : Nat} : ∀ (xs : List α) (o : Nat), (∀ (j : Nat) x, xs[j]? = some x → CellsAt w b (o + j * k) (enc x)) → CellsAt w b o (xs.flatMap enc)
  | [], _, _ => fun j u h => by simp at h
  | y :: ys, o, h => fun j u hj => by
    rw [List.flatMap_cons] at hj
    by_cases hlt : j < k
    · rw [List.getElem?_append_left (by rw [hk]; exact hlt)] at hj
      have := h 0 y rfl j u hj
      rwa [Nat.zero_mul, Nat.add_zero] at this
    · rw [List.getElem?_append_right (by rw [hk]; omega), hk] at hj
      have ih := flat_cells hk ys (o + k) (fun i x hx => by
        have := h (i + 1) x (by simpa using hx)
        have e : o + (i + 1) * k = o + k + i * k := by rw [Nat.succ_mul]; omega
        rwa [e] at this) (j - k) u hj
      have e : o + k + (j - k) = o + j := by omega
      rwa [e] at ih
theorem flat_length (hk : ∀ x, (enc x).length = k) (xs : List α) : (xs.flatMap enc).length = xs.length * k := by
  induction xs with
  | nil => simp
  | cons y ys ih => rw [List.flatMap_cons, List.length_append, hk, ih, List.length_cons, Nat.succ_mul]; omega
end
def Own {α : Type} (enc : α → List Value) (k e : Nat) (B : Nat) (w : World) (v : Value) (xs : List α) : Prop := w.ownsRow B e k v xs.length (xs.flatMap enc)
def ElemN (t e k N : Nat) : Prop := Try.prog.underlying t = some (.slice e) ∧ 0 < k ∧ ∃ i z, Try.prog.info? e = some i ∧ i.zero = some z ∧ i.size = k ∧ i.bytes ≤ N ∧ z.cells.size = k
theorem Own.sl {α : Type} {enc : α → List Value} {k e B : Nat} {w : World} {v : Value} {xs : List α} (h : Own enc k e B w v xs) (hk : ∀ x, (enc x).length = k) : SlAt (fun b => B ≤ b ∧ b < w.heap.size) enc k w v xs := by
  rcases h.2 with ⟨hv, h0⟩ | ⟨g, cap, cur, hv, hg, hblk, hc, hm, q⟩
  · have hn : xs = [] := List.eq_nil_of_length_eq_zero h0
    subst hn
    exact ⟨none, 0, hv, ⟨by simp, by unfold maxLen; omega⟩, fun hne => absurd rfl hne⟩
  · refine ⟨some ⟨g, 0, none⟩, cap, hv, ⟨hc, hm⟩, fun _ => ⟨g, 0, rfl, ⟨hg, lt_of_block hblk⟩, fun j x hx i u hi => ?_⟩⟩
    have := World.ownsRow.cells h (g := g) (by rw [hv]; rfl) (j * k + i) u (flat_get hk xs j x hx i u hi)
    rw [Addr.add_lit, Nat.zero_add] at this
    rw [Nat.zero_add]
    exact this
theorem Own.nil {α : Type} (enc : α → List Value) (k e B : Nat) (w : World) : Own enc k e B w (.slice none 0 0) ([] : List α) := World.ownsRow_nil w B e k
theorem Own.blk {α : Type} {enc : α → List Value} {k e B : Nat} {w : World} {g : Nat} {xs : List α} (hk : ∀ x, (enc x).length = k) (hg : B ≤ g) (h : w.heap[g]? = some (.cells (xs.flatMap enc).toArray e (0, 0))) (hm : xs.length ≤ maxLen) : Own enc k e B w (.slice (some ⟨g, 0, none⟩) xs.length xs.length) xs := by
  refine ⟨flat_length hk xs, .inr ⟨g, xs.length, _, rfl, hg, h, Nat.le_refl _, hm, ?_, ?_⟩⟩
  · simp only [List.size_toArray]; exact flat_length hk xs
  · show (xs.flatMap enc).take (xs.length * k) = _
    rw [← flat_length hk xs]; exact List.take_length
theorem Own.kp {α : Type} {enc : α → List Value} {k e B : Nat} {T : Nat → Prop} {w w' : World} {v : Value} {xs : List α} (h : Own enc k e B w v xs) (hk : Kp T w w') (ht : ∀ g, v.ownBlock = some g → ¬ T g) : Own enc k e B w' v xs := by
  refine ⟨h.1, ?_⟩
  rcases h.2 with h0 | ⟨g, cap, cur, hv, hg, hblk, hc⟩
  · exact .inl h0
  · exact .inr ⟨g, cap, cur, hv, hg, hk.blk hblk (ht g (by rw [hv]; rfl)), hc⟩
theorem Own.on {α : Type} {enc : α → List Value} {k e B : Nat} {w w' : World} {v : Value} {xs : List α} (h : Own enc k e B w v xs) (hb : Below w.heap.size w w') : Own enc k e B w' v xs := h.kp (T := fun _ => False) (Kp.of hb) (fun _ _ => id)
theorem Own.at {α : Type} {enc : α → List Value} {k e B : Nat} {w : World} {v : Value} {xs : List α} (h : Own enc k e B w v xs) {g : Nat} (hg : v.ownBlock = some g) : B ≤ g ∧ g < w.heap.size := World.ownsRow.lt h g hg
theorem Own.kind {α : Type} {enc : α → List Value} {k e B : Nat} {w : World} {v : Value} {xs : List α} (h : Own enc k e B w v xs) {g : Nat} (hg : v.ownBlock = some g) : ∃ c fz, w.heap[g]? = some (.cells c e fz) := Lib.ownsRow_kind h g hg
theorem Own.form {α : Type} {enc : α → List Value} {k e B : Nat} {w : World} {v : Value} {xs : List α} (h : Own enc k e B w v xs) : ∃ p c, v = .slice p xs.length c := by
  rcases h.2 with ⟨hv, h0⟩ | ⟨g, cap, cur, hv, hg, hblk, q⟩
  · exact ⟨none, 0, by rw [hv, h0]⟩
  · exact ⟨_, cap, hv⟩
theorem Own.le {α : Type} {enc : α → List Value} {k e B B' : Nat} {w : World} {v : Value} {xs : List α} (h : Own enc k e B w v xs) (hb : B' ≤ B) : Own enc k e B' w v xs := by
  refine ⟨h.1, ?_⟩
  rcases h.2 with h0 | ⟨g, cap, cur, hv, hg, hblk, hc⟩
  · exact .inl h0
  · exact .inr ⟨g, cap, cur, hv, Nat.le_trans hb hg, hblk, hc⟩
theorem app_N {ops : Array Oper} {rest : List Oper} {o : Oper} {a : Act} {Q : Exit → Act → World → Prop} {w : World} {α : Type} {enc : α → List Value} {k e t B N : Nat} {Qb : Nat → Prop} {xs ys : List α} {v u : Value}
    (hE : ElemN t e k N) (hk : ∀ x, (enc x).length = k) (h1 : ∀ y ∈ ys, ∀ c ∈ enc y, c.oneCell' = true) (hgd : o.guard = none) (s x : Operand) (ho : o.op = .call { callee := .builtin .append, args := #[s, x], argTypes := #[t, t] })
    (hs : a.eval s = v) (hown : Own enc k e B w v xs) (hx : a.eval x = u) (hu : SlAt Qb enc k w u ys) (hne : ys ≠ []) (hb : (xs.length + ys.length) * N ≤ 140737488355328) (hN : 1 ≤ N) (hB : B ≤ w.heap.size)
    (h : ∀ v' w', Own enc k e B w' v' (xs ++ ys) → w.grownBy w' v.ownBlock → wpList Try.prog ops Q rest (a.put o.dst v') w') : wpList Try.prog ops Q (o :: rest) a w := by
  refine wpList_plain hgd fun K hK => ?_
  obtain ⟨ht, hkp, i0, z, hi, hz0, hz1, hz2, hzs⟩ := hE
  obtain ⟨p, cap, rfl, ⟨hcap, hmax⟩, hy⟩ := hu
  obtain ⟨b, o', rfl, _, hcell⟩ := hy hne
  refine wp_append_own w s x t ho B e i0 z k i0.bytes ht hi hz0 hz1 rfl hzs hkp v xs.length _ hs hown ⟨b, o', none⟩ ys.length cap (ys.flatMap enc) hx (flat_length hk ys) ?_ ?_ ?_ (Nat.le_trans (Nat.mul_le_mul_left _ hz2) hb) hB ?_
  · intro j c hj
    rw [Addr.add_lit]
    exact flat_cells hk ys o' hcell j c hj
  · intro c hc
    obtain ⟨y, hy', hcy⟩ := List.mem_flatMap.1 hc
    exact h1 y hy' c hcy
  · have : (xs.length + ys.length) * 1 ≤ (xs.length + ys.length) * N := Nat.mul_le_mul_left _ hN
    unfold maxLen; omega
  · intro v' w' h2 h3 h4
    refine hK _ _ (h v' w' ?_ h3)
    show w'.ownsRow B e k v' (xs ++ ys).length ((xs ++ ys).flatMap enc)
    rw [List.length_append, List.flatMap_append]; exact h2
def At (w : World) (v v' : Value) : Prop := ∀ k, v'.ownBlock = some k → v.ownBlock = some k ∨ w.heap.size ≤ k
theorem At.refl (w : World) (v : Value) : At w v v := fun _ h => .inl h
theorem append_at {P : Program} (w : World) (base : Nat) (t ty e : TypeId) (i : TypeInfo) (z : Value) (size bytes : Nat) (ht : P.underlying t = some (.slice e)) (hi : P.info? e = some i) (hz : i.zero = some z)
    (hsize : i.size = size) (hby : i.bytes = bytes) (hzs : z.cells.size = size) (hsz : 0 < size)
    (v : Value) (n : Nat) (xs : List Value) (hown : w.ownsRow base e size v n xs)
    (a : Addr) (m c : Nat) (news : List Value) (hl : news.length = m * size) (hnews : ∀ j u, news[j]? = some u → w.cell? (a.add j) = some u) (h1 : ∀ u ∈ news, u.oneCell' = true)
    (h63 : n + m ≤ maxLen) (hbytes : (n + m) * bytes ≤ 140737488355328) {v' : Value} {w' : World} (hr : (Builtin.append_ #[t, t] ty #[v, .slice (some a) m c]).run P w = .ok v' w') : At w v v' := by
  intro k hk
  have hsmall : n + m ≤ 9223372036854775807 := by simp only [maxLen] at h63; omega
  rcases hown.2 with ⟨rfl, rfl⟩ | ⟨g, cap, cur, rfl, hbg, hg, hnc, hcm, hcs, htake⟩
  · have hx : xs = [] := List.eq_nil_of_length_eq_zero (by simpa using hown.1)
    subst hx
    obtain ⟨v2, w2, hr2, ho2, -, -⟩ := run_append_own (P := P) w w.heap.size t ty e i z size bytes ht hi hz hsize hby hzs hsz _ 0 [] (World.ownsRow_nil w w.heap.size e size) a m c news hl hnews h1 h63 hbytes (Nat.le_refl _)
    rw [hr] at hr2
    cases hr2
    exact .inr (World.ownsRow.lt ho2 k hk).1
  · subst hsize
    by_cases hroom : n + m ≤ cap
    · have hfit : n * i.size + news.length ≤ cur.size := by rw [hl, hcs, ← Nat.add_mul]; exact Nat.mul_le_mul_right _ hroom
      have hr2 := run_append_room (P := P) w t ty e i ht hi g n cap cur hg a m c news hl hnews h1 hroom hfit
      rw [hr] at hr2
      cases hr2
      exact .inl hk
    · have holds : ∀ j u, xs[j]? = some u → w.cell? ((⟨g, 0, none⟩ : Addr).add j) = some u := World.ownsRow.cells hown (g := g) rfl
      have hr2 := run_append_grow (P := P) w t ty e i z ht hi hz ⟨g, 0, none⟩ n cap xs hown.1 holds a m c news hl hnews (by omega) (by omega) (growslice_fits (by omega) (by rw [hby]; exact hbytes))
      rw [hr] at hr2
      cases hr2
      cases hk
      exact .inr (Nat.le_refl _)
theorem step_appP {ops : Array Oper} {o : Oper} {a : Act} {w : World} {K : Act → World → Prop} {Q : Exit → Act → World → Prop} {E : Prop} {α : Type} {enc : α → List Value} {k e t B N : Nat} {Qb : Nat → Prop} {xs ys : List α} {v u : Value}
    (hE : ElemN t e k N) (hk : ∀ x, (enc x).length = k) (h1 : ∀ y ∈ ys, ∀ c ∈ enc y, c.oneCell' = true) (hgd : o.guard = none) (s x : Operand) (ho : o.op = .call { callee := .builtin .append, args := #[s, x], argTypes := #[t, t] })
    (hs : a.eval s = v) (hx : a.eval x = u) (hown : Own enc k e B w v xs) (hu : SlAt Qb enc k w u ys) (hne : ys ≠ []) (hb : (xs.length + ys.length) * N ≤ 140737488355328) (hN : 1 ≤ N) (hB : B ≤ w.heap.size)
    (h : ∀ v' w', Own enc k e B w' v' (xs ++ ys) → w.grownBy w' v.ownBlock → At w v v' → K (a.put o.dst v') w') : if Region.wanted o (yielded ops a.tmps) = true then Oper.wp Try.prog o a w K Q else E := by
  have hw : Region.wanted o (yielded ops a.tmps) = true := by simp [Region.wanted, hgd]
  rw [if_pos hw]
  obtain ⟨ht, hkp, i0, z, hi, hz0, hz1, hz2, hzs⟩ := hE
  obtain ⟨p, cap, rfl, ⟨hcap, hmax⟩, hy⟩ := hu
  obtain ⟨b, o', rfl, _, hcell⟩ := hy hne
  have hnews : ∀ (j : Nat) c, (ys.flatMap enc)[j]? = some c → w.cell? ((⟨b, o', none⟩ : Addr).add j) = some c := by
    intro j c hj
    rw [Addr.add_lit]
    exact flat_cells hk ys o' hcell j c hj
  have h1' : ∀ c ∈ ys.flatMap enc, c.oneCell' = true := by
    intro c hc
    obtain ⟨y, hy', hcy⟩ := List.mem_flatMap.1 hc
    exact h1 y hy' c hcy
  have h63 : xs.length + ys.length ≤ maxLen := by
    have : (xs.length + ys.length) * 1 ≤ (xs.length + ys.length) * N := Nat.mul_le_mul_left _ hN
    unfold maxLen; omega
  have hby : (xs.length + ys.length) * i0.bytes ≤ 140737488355328 := Nat.le_trans (Nat.mul_le_mul_left _ hz2) hb
  obtain ⟨v', w', hr, h2, h3, h4⟩ := run_append_own (P := Try.prog) w B t o.type e i0 z k i0.bytes ht hi hz0 hz1 rfl hzs hkp v xs.length _ hown ⟨b, o', none⟩ ys.length cap (ys.flatMap enc) (flat_length hk ys) hnews h1' h63 hby hB
  have h5 := append_at (P := Try.prog) w B t o.type e i0 z k i0.bytes ht hi hz0 hz1 rfl hzs hkp v xs.length _ hown ⟨b, o', none⟩ ys.length cap (ys.flatMap enc) (flat_length hk ys) hnews h1' h63 hby hr
  unfold Oper.wp execOp
  simp only [ho, resolve, invoke, builtin, Sem.run_bind, Sem.run_pure, Result.andThen_ok, List.map_toArray, List.map_cons, List.map_nil, hs, hx, hr]
  refine h v' w' ?_ h3 h5
  show w'.ownsRow B e k v' (xs ++ ys).length ((xs ++ ys).flatMap enc)
  rw [List.length_append, List.flatMap_append]; exact h2
theorem wpList_store_row {ops : Array Oper} {rest : List Oper} {o : Oper} {a : Act} {w : World} {Q : Exit → Act → World → Prop} (hgd : o.guard = none) (ty : TypeId) (x y : Operand) (ho : o.op = .store ty x y)
    {g : Nat} {cells : Array Value} (hx : a.eval x = .pointer (some ⟨g, 0, none⟩)) (hy : a.eval y = .agg cells)
    {t : TypeId} {old : Array Value} (hg : w.heap[g]? = some (.cells old t (0, 0))) (hi : (Try.prog.info? ty).map (·.size) = some cells.size)
    (hold : old.size = cells.size) (h1 : cells.all (·.oneCell') = true)
    (h : ∀ w', w'.heap[g]? = some (.cells cells t (0, 0)) → Kp (fun k => k = g) w w' → w'.heap.size = w.heap.size → wpList Try.prog ops Q rest (a.put o.dst undef) w') : wpList Try.prog ops Q (o :: rest) a w :=
  wpList_plain hgd fun _ hK => wp_store_row ty x y ho g cells hx hy t old hg hi hold h1 (hK _ _ (h _ (setRow_heap w g old _ t _ hg) ⟨rfl, rfl, rfl, by simp, fun k _ hk => setRow_other w g k _ hk⟩ (by simp)))
abbrev int1 (x : Int) : List Value := [.int .i64 x]
abbrev str1 (x : List UInt8) : List Value := [.string (St x)]
abbrev ag2 (x : Int × List UInt8) : List Value := [.int .i64 x.1, .string (St x.2)]
/- A token's cells; a node's, with the values of its three rows. -/
def Tp.cells (t : Tp) : List Value := [.int .i64 t.kind, .string (St t.s), .int .i64 t.n, .int .i64 t.at_]
abbrev TkV (t : Tp) : Value := .agg #[.int .i64 t.kind, .string (St t.s), .int .i64 t.n, .int .i64 t.at_]
structure Nd where
  np : Np
  lv : Value
  nv : Value
  gv : Value
def Nd.cells (q : Nd) : List Value := [.int .i64 q.np.kind, .string (St q.np.s), .int .i64 q.np.n, .int .i64 q.np.from_, .int .i64 q.np.to_, .int .i64 q.np.vk, .int .i64 q.np.vn, .string (St q.np.vs), .int .i64 0, .int .i64 0, .int .i64 0, .int .i64 0, .int .i64 0, .int .i64 0, .int .i64 0, .int .i64 0, q.lv, q.nv, q.gv]
abbrev NdV (n : Np) (l v g : Value) : Array Value := #[.int .i64 n.kind, .string (St n.s), .int .i64 n.n, .int .i64 n.from_, .int .i64 n.to_, .int .i64 n.vk, .int .i64 n.vn, .string (St n.vs), .int .i64 0, .int .i64 0, .int .i64 0, .int .i64 0, .int .i64 0, .int .i64 0, .int .i64 0, .int .i64 0, l, v, g]
theorem nd_len (q : Nd) : q.cells.length = 19 := rfl
theorem tp_len (t : Tp) : t.cells.length = 4 := rfl
theorem info_node : (Try.prog.info? 51).map (fun i => (i.zero, i.size, i.bytes)) = some (some (.agg (NdV n0 (.slice none 0 0) (.slice none 0 0) (.slice none 0 0))), 19, 216) := by kernel_rfl
theorem elem_node : ElemN 22 51 19 216 := by
  obtain ⟨i, hi, h0, h1, h2⟩ := info_parts info_node
  exact ⟨Try.underlying22, by omega, i, _, hi, h0, h1, Nat.le_of_eq h2, rfl⟩
theorem info_str : (Try.prog.info? 9).map (fun i => (i.zero, i.size, i.bytes)) = some (some (.string ⟨#[]⟩), 1, 16) := by kernel_rfl
theorem elem_str : ElemN 48 9 1 16 := by
  obtain ⟨i, hi, h0, h1, h2⟩ := info_parts info_str
  exact ⟨Try.underlying48, by omega, i, _, hi, h0, h1, Nat.le_of_eq h2, rfl⟩
theorem info_int : (Try.prog.info? 3).map (fun i => (i.zero, i.size, i.bytes)) = some (some (.int .i64 0), 1, 8) := by kernel_rfl
theorem elem_int : ElemN 47 3 1 8 := by
  obtain ⟨i, hi, h0, h1, h2⟩ := info_parts info_int
  exact ⟨Try.underlying47, by omega, i, _, hi, h0, h1, Nat.le_of_eq h2, rfl⟩
theorem info_agg : (Try.prog.info? 199).map (fun i => (i.zero, i.size, i.bytes)) = some (some (.agg #[.int .i64 0, .string ⟨#[]⟩]), 2, 24) := by kernel_rfl
theorem elem_agg : ElemN 49 199 2 24 := by
  obtain ⟨i, hi, h0, h1, h2⟩ := info_parts info_agg
  exact ⟨Try.underlying49, by omega, i, _, hi, h0, h1, Nat.le_of_eq h2, rfl⟩
theorem size_node : (Try.prog.info? 51).map (·.size) = some 19 := by kernel_rfl
/- The node's rows are of the call's own. -/
structure NdIn (B : Nat) (w : World) (q : Nd) : Prop where
  l : Own int1 1 3 B w q.lv q.np.l
  n : Own str1 1 9 B w q.nv q.np.names
  g : Own ag2 2 199 B w q.gv q.np.aggs
theorem Own.one {α : Type} {enc : α → List Value} {k e B : Nat} {w : World} {v : Value} {xs : List α} (h : Own enc k e B w v xs) : v.oneCell' = true := by
  obtain ⟨p, c, rfl⟩ := h.form; rfl
theorem NdIn.one {B : Nat} {w : World} {q : Nd} (h : NdIn B w q) : ∀ c ∈ q.cells, c.oneCell' = true := by
  intro v hv
  have h1 := h.l.one
  have h2 := h.n.one
  have h3 := h.g.one
  simp [Nd.cells] at hv
  rcases hv with rfl | rfl | rfl | rfl | rfl | rfl | rfl | rfl | rfl | rfl | rfl | rfl | rfl | rfl | rfl | rfl | rfl | rfl | rfl <;> first | rfl | assumption
theorem NdIn.all {B : Nat} {w : World} {q : Nd} (h : NdIn B w q) : q.cells.toArray.all (·.oneCell') = true := all_oneCell_toArray h.one
theorem NdIn.le {B B' : Nat} {w : World} {q : Nd} (h : NdIn B w q) (hb : B' ≤ B) : NdIn B' w q := ⟨h.l.le hb, h.n.le hb, h.g.le hb⟩
/- Blocks that may turn: of the reader's and the nodes' types. -/
def TK (w : World) (T : Nat → Prop) : Prop := ∀ k, T k → ∀ c t fz, w.heap[k]? = some (.cells c t fz) → t ≠ 3 ∧ t ≠ 9 ∧ t ≠ 199
theorem Own.kpk {α : Type} {enc : α → List Value} {k e B : Nat} {T : Nat → Prop} {w w' : World} {v : Value} {xs : List α} (h : Own enc k e B w v xs) (hk : Kp T w w') (ht : ∀ g, T g → ∀ c t fz, w.heap[g]? = some (.cells c t fz) → t ≠ e) : Own enc k e B w' v xs :=
  h.kp hk (fun g hg hT => by obtain ⟨c, fz, hc⟩ := h.kind hg; exact ht g hT _ _ _ hc rfl)
theorem NdIn.kp {B : Nat} {w w' : World} {q : Nd} {T : Nat → Prop} (h : NdIn B w q) (hk : Kp T w w') (ht : TK w T) : NdIn B w' q :=
  ⟨h.l.kpk hk (fun g hT c t fz hc => (ht g hT c t fz hc).1), h.n.kpk hk (fun g hT c t fz hc => (ht g hT c t fz hc).2.1), h.g.kpk hk (fun g hT c t fz hc => (ht g hT c t fz hc).2.2)⟩
theorem TK.no (w : World) : TK w (fun _ => False) := fun _ h => h.elim
theorem NdIn.on {B : Nat} {w w' : World} {q : Nd} (h : NdIn B w q) (hb : Below w.heap.size w w') : NdIn B w' q := h.kp (T := fun _ => False) (Kp.of hb) (TK.no w)
def Tq (rb : Nat) (sv : Value) (k : Nat) : Prop := k = rb ∨ sv.ownBlock = some k
section
variable {B : Nat} {ts : List Tp} {w w' : World} {rb : Nat} {tv sv : Value} {o i : Nat} {qs : List Nd}
end
abbrev dies (v : Value) : Ending := .panicked [{ v := v, recovered := false }]
theorem At.trans {w w1 : World} {a b c : Value} (h : At w a b) (h2 : At w1 b c) (hs : w.heap.size ≤ w1.heap.size) : At w a c := fun k hk => by
  rcases h2 k hk with h3 | h3
  · exact h k h3
  · exact .inr (Nat.le_trans hs h3)
/- One call behind another. -/
theorem Kp.next {rb : Nat} {sv sv' : Value} {w w1 w2 : World} (h : Kp (Tq rb sv) w w1) (ha : At w sv sv') (h2 : Kp (Tq rb sv') w1 w2) : Kp (Tq rb sv) w w2 :=
  h.trans' h2 (fun k hk ht => by
    rcases ht with e | e
    · exact .inl e
    · rcases ha k e with e | e
      · exact .inr e
      · omega)
theorem Kp.r {rb : Nat} {sv : Value} {w w1 : World} (h : Kp (fun k => k = rb) w w1) : Kp (Tq rb sv) w w1 := h.imp (fun _ _ e => .inl e)
end Go.Proofs.Ytcidijjbcebcbaa
namespace Go.Proofs.Ytcidijjbcebcbaa
open Go.RowKit Go.Joins

theorem size_tok : (Try.prog.info? 86).map (·.size) = some 4 := by kernel_rfl
theorem size_val : (Try.prog.info? 39).map (·.size) = some 11 := by kernel_rfl
theorem size_agg : (Try.prog.info? 199).map (·.size) = some 2 := by kernel_rfl
/- A result that lies in a block of its own. -/
theorem ret_tok {fn : Func} {R : Ending → World → Prop} {a : Act} {w : World} {p : Tmp} {g : Nat} {cs : Array Value} (h : fn.results = #[.cell p 86]) (hp : a.tmps.getD p undef = dp g) (hg : w.heap[g]? = some (.cells cs 86 (0, 0))) (hs : cs.size = 4) (hd : a.defers = []) (hR : R (.returned (.agg cs)) w) : bodyPost Try.prog fn R .ret a w :=
  ⟨hd, _, results_cell_row h a.tmps w g 86 cs (0, 0) _ hp hg Try.underlying86 rfl (by rw [hs]; exact size_tok), hR⟩
theorem ret_nd {fn : Func} {R : Ending → World → Prop} {a : Act} {w : World} {p : Tmp} {g : Nat} {cs : Array Value} (h : fn.results = #[.cell p 51]) (hp : a.tmps.getD p undef = dp g) (hg : w.heap[g]? = some (.cells cs 51 (0, 0))) (hs : cs.size = 19) (hd : a.defers = []) (hR : R (.returned (.agg cs)) w) : bodyPost Try.prog fn R .ret a w :=
  ⟨hd, _, results_cell_row h a.tmps w g 51 cs (0, 0) _ hp hg Try.underlying51 rfl (by rw [hs]; exact size_node), hR⟩
theorem ret_val {fn : Func} {R : Ending → World → Prop} {a : Act} {w : World} {p : Tmp} {g : Nat} {cs : Array Value} (h : fn.results = #[.cell p 39]) (hp : a.tmps.getD p undef = dp g) (hg : w.heap[g]? = some (.cells cs 39 (0, 0))) (hs : cs.size = 11) (hd : a.defers = []) (hR : R (.returned (.agg cs)) w) : bodyPost Try.prog fn R .ret a w :=
  ⟨hd, _, results_cell_row h a.tmps w g 39 cs (0, 0) _ hp hg Try.underlying39 rfl (by rw [hs]; exact size_val), hR⟩
theorem ret_ag {fn : Func} {R : Ending → World → Prop} {a : Act} {w : World} {p : Tmp} {g : Nat} {cs : Array Value} (h : fn.results = #[.cell p 199]) (hp : a.tmps.getD p undef = dp g) (hg : w.heap[g]? = some (.cells cs 199 (0, 0))) (hs : cs.size = 2) (hd : a.defers = []) (hR : R (.returned (.agg cs)) w) : bodyPost Try.prog fn R .ret a w :=
  ⟨hd, _, results_cell_row h a.tmps w g 199 cs (0, 0) _ hp hg Try.underlying199 rfl (by rw [hs]; exact size_agg), hR⟩
section
variable {B : Nat} {ts : List Tp} {w : World} {rb : Nat} {tv sv : Value} {o i : Nat} {qs : List Nd}
theorem Kp.new {n : Nat} {w1 w2 : World} (h : Below w1.heap.size w1 w2) : Kp (fun k => n ≤ k) w1 w2 := Kp.of h
theorem Kp.set4 (g n : Nat) (hn : n ≤ g) (w : World) (d0 d1 d2 d3 : Value) : Kp (fun k => n ≤ k) w (set4 w g d0 d1 d2 d3) :=
  (((Kp.set (T := fun k => n ≤ k) hn _).trans (Kp.set (T := fun k => n ≤ k) hn _)).trans (Kp.set (T := fun k => n ≤ k) hn _)).trans (Kp.set (T := fun k => n ≤ k) hn _)
theorem here_lt {ts : List Tp} {i : Nat} (h : i < ts.length) : hereS ts i = ts[i] := by
  unfold hereS; rw [List.getElem?_eq_getElem h]; rfl
theorem here_ge {ts : List Tp} {i : Nat} (h : ¬ i < ts.length) : hereS ts i = ⟨0, [], 0, 0⟩ := by
  unfold hereS; rw [List.getElem?_eq_none (by omega)]; rfl
abbrev zTk : Array Value := #[.int .i64 0, .string ⟨#[]⟩, .int .i64 0, .int .i64 0]
theorem St_dec (x y : List UInt8) : ((St x).toList == (St y).toList) = decide (x = y) := by
  rw [St_eq]
  by_cases h : x = y
  · simp [h]
  · simp [h]
theorem isW_here (ts : List Tp) (i : Nat) (x : List UInt8) : isW ts i x = ((decide ((hereS ts i).kind = 1) || decide ((hereS ts i).kind = 4)) && decide ((hereS ts i).s = x)) := by
  unfold isW hereS
  cases ts[i]? with
  | none => simp
  | some t => simp [Bool.decide_and, Bool.decide_or]
abbrev vNone (_ : World) (_ : Unit) (v : Value) : Prop := v = .tuple #[]
theorem isK_here (ts : List Tp) (i : Nat) (k : Int) (hk : ¬ k = 0) : isK ts i k = decide ((hereS ts i).kind = k) := by
  unfold isK hereS
  cases ts[i]? with
  | none => simp; omega
  | some t => rfl
theorem take_def (ts : List Tp) (k : Int) (i : Nat) : takeS ts k i = if isK ts i k then .ok (hereS ts i) (i + 1) else .bad i 120 := rfl
abbrev vTok (_ : World) (t : Tp) (v : Value) : Prop := v = TkV t
theorem fld0 (t : Tp) (w : World) : (Instr.field 86 (TkV t) 0).run Try.prog w = .ok (.int .i64 t.kind) w := by kernel_rfl
theorem fld1 (t : Tp) (w : World) : (Instr.field 86 (TkV t) 1).run Try.prog w = .ok (.string (St t.s)) w := by kernel_rfl
theorem fld2 (t : Tp) (w : World) : (Instr.field 86 (TkV t) 2).run Try.prog w = .ok (.int .i64 t.n) w := by kernel_rfl
abbrev vStr (_ : World) (s : List UInt8) (v : Value) : Prop := v = .string (St s)
abbrev vInt (_ : World) (n : Int) (v : Value) : Prop := v = .int .i64 n
abbrev vNat (_ : World) (n : Nat) (v : Value) : Prop := v = .int .i64 (n : Int)
abbrev VlV (x : Int × Int × List UInt8) : Array Value := #[.int .i64 x.1, .int .i64 x.2.1, .string (St x.2.2), .int .i64 0, .int .i64 0, .int .i64 0, .int .i64 0, .int .i64 0, .int .i64 0, .int .i64 0, .int .i64 0]
abbrev zVl : Array Value := #[.int .i64 0, .int .i64 0, .string ⟨#[]⟩, .int .i64 0, .int .i64 0, .int .i64 0, .int .i64 0, .int .i64 0, .int .i64 0, .int .i64 0, .int .i64 0]
abbrev vVal (_ : World) (x : Int × Int × List UInt8) (v : Value) : Prop := v = .agg (VlV x)
theorem one_val (x : Int × Int × List UInt8) : (VlV x).all (·.oneCell') = true := by simp [Value.oneCell']
/- A struct is stored into a block that is the call's own. -/
theorem store_val {ops : Array Oper} {rest : List Oper} {op : Oper} {a : Act} {w : World} {Q : Exit → Act → World → Prop} (hgd : op.guard = none) (x y : Operand) (ho : op.op = .store 39 x y) {g : Nat} {c : Int × Int × List UInt8} (hx : a.eval x = dp g) (hy : a.eval y = .agg (VlV c)) {old : Array Value} (hg : w.heap[g]? = some (.cells old 39 (0, 0))) (hs : old.size = 11)
    (h : ∀ w', w'.heap[g]? = some (.cells (VlV c) 39 (0, 0)) → Kp (fun k => k = g) w w' → wpList Try.prog ops Q rest (a.put op.dst undef) w') : wpList Try.prog ops Q (op :: rest) a w :=
  wpList_store_row hgd 39 x y ho hx hy hg size_val (by rw [hs]; rfl) (one_val c) (fun w' h1 h2 _ => h w' h1 h2)
end
end Go.Proofs.Ytcidijjbcebcbaa
namespace Go.Proofs.Ytcidijjbcebcbaa
open Go.RowKit Go.Joins

section
variable {B : Nat} {ts : List Tp} {w : World} {rb : Nat} {tv sv : Value} {o i : Nat} {qs : List Nd}
theorem lits_sl {W : World} {rb : Nat} (hr : rb < W.heap.size) (ws : List (List UInt8)) {cs : Array Value} {n : Nat} (hc : cs = (ws.flatMap str1).toArray) (hn : n = ws.length) (hl : ws.length ≤ 1000) : SlAt (fun b => b ≠ rb) str1 1 (W.alloc (.cells cs 9)) (.slice (some ⟨W.heap.size, 0, none⟩) n n) ws := by
  subst hc
  subst hn
  have h := Own.blk (enc := str1) (k := 1) (e := 9) (B := W.heap.size) (w := W.alloc (.cells (ws.flatMap str1).toArray 9)) (xs := ws) (fun _ => rfl) (Nat.le_refl _) (alloc_block W _) (by unfold maxLen; omega)
  exact (h.sl (fun _ => rfl)).imp (fun b hb => by omega)
theorem idx_drop {ts : List Tp} {i : Nat} {ws : List (List UInt8)} {k : Nat} {x : List UInt8} (hx : ws[k]? = some x) (hw : isW ts i x = false) : idxOf ts i (ws.drop k) k = idxOf ts i (ws.drop (k + 1)) (k + 1) := by
  obtain ⟨h1, h2⟩ := List.getElem?_eq_some_iff.1 hx
  rw [List.drop_eq_getElem_cons h1, h2, idxOf, hw]; rfl
theorem idx_at {ts : List Tp} {i : Nat} {ws : List (List UInt8)} {k : Nat} {x : List UInt8} (hx : ws[k]? = some x) (hw : isW ts i x = true) : idxOf ts i (ws.drop k) k = some k := by
  obtain ⟨h1, h2⟩ := List.getElem?_eq_some_iff.1 hx
  rw [List.drop_eq_getElem_cons h1, h2, idxOf, hw]; rfl
abbrev howC : Array Value := #[.string ⟨#[61]⟩, .string ⟨#[33, 61]⟩, .string ⟨#[60]⟩, .string ⟨#[60, 61]⟩, .string ⟨#[62]⟩, .string ⟨#[62, 61]⟩]
abbrev boolC : Array Value := #[.string ⟨#[102, 97, 108, 115, 101]⟩, .string ⟨#[116, 114, 117, 101]⟩]
abbrev aggC : Array Value := #[.string ⟨#[99, 111, 117, 110, 116]⟩, .string ⟨#[115, 117, 109]⟩, .string ⟨#[109, 105, 110]⟩, .string ⟨#[109, 97, 120]⟩, .string ⟨#[109, 101, 97, 110]⟩, .string ⟨#[109, 101, 114, 103, 101]⟩]
abbrev howS (ts : List Tp) (i : Nat) : Rs Int := (oneOfS ts howW i).and fun k j => .ok (1 + (k : Int)) j
end
end Go.Proofs.Ytcidijjbcebcbaa
namespace Go.Proofs.Ytcidijjbcebcbaa
open Go.RowKit Go.Joins

section
variable {B : Nat} {ts : List Tp} {w : World} {rb : Nat} {tv sv : Value} {o i : Nat} {qs : List Nd}
abbrev zAg : Array Value := #[.int .i64 0, .string ⟨#[]⟩]
abbrev vAg (_ : World) (x : Int × List UInt8) (v : Value) : Prop := v = .agg #[.int .i64 x.1, .string (St x.2)]
theorem Kp.set2 {n g : Nat} (hn : n ≤ g) (w : World) (d0 d1 : Value) : Kp (fun k => n ≤ k) w ((w.setCell ⟨g, 0, none⟩ d0).setCell ⟨g, 1, none⟩ d1) :=
  (Kp.set (T := fun k => n ≤ k) hn _).trans (Kp.set (T := fun k => n ≤ k) hn _)
/- Where the reader stands. -/
def atOf (rb : Nat) (w : World) : Nat := match w.cell? ⟨rb, 1, none⟩ with
  | some (.int _ n) => n.toNat
  | _ => 0
theorem lists_one (W : World) (x : List UInt8) : Own str1 1 9 W.heap.size (W.alloc (.cells #[.string (St x)] 9)) (.slice (some ⟨W.heap.size, 0, none⟩) 1 1) [x] :=
  Own.blk (enc := str1) (k := 1) (e := 9) (B := W.heap.size) (w := W.alloc (.cells #[.string (St x)] 9)) (xs := [x]) (fun _ => rfl) (Nat.le_refl _) (alloc_block W _) (by unfold maxLen; simp)
abbrev vlists (n : Nat) (w : World) (l : List (List UInt8)) (v : Value) : Prop := Own str1 1 9 n w v l
theorem lista_one (W : World) (x : Int × List UInt8) : Own ag2 2 199 W.heap.size (W.alloc (.cells #[.int .i64 x.1, .string (St x.2)] 199)) (.slice (some ⟨W.heap.size, 0, none⟩) 1 1) [x] :=
  Own.blk (enc := ag2) (k := 2) (e := 199) (B := W.heap.size) (w := W.alloc (.cells #[.int .i64 x.1, .string (St x.2)] 199)) (xs := [x]) (fun _ => rfl) (Nat.le_refl _) (alloc_block W _) (by unfold maxLen; simp)
abbrev vlista (n : Nat) (w : World) (l : List (Int × List UInt8)) (v : Value) : Prop := Own ag2 2 199 n w v l
end
end Go.Proofs.Ytcidijjbcebcbaa
namespace Go.Proofs.Ytcidijjbcebcbaa
open Go.RowKit Go.Joins

section
variable {B : Nat} {ts : List Tp} {w : World} {rb : Nat} {tv sv : Value} {o i : Nat} {qs : List Nd}
theorem how_bad {s : List UInt8} {j j2 : Nat} {c : Int} (h1 : nameS ts i = .ok s j) (h2 : isW ts j wHas = false) (h3 : howS ts j = .bad j2 c) : testS ts i = .bad j2 c := by
  unfold howS at h3
  cases h4 : oneOfS ts howW j with
  | bad a b => rw [h4] at h3; simp only [Rs.and] at h3; simp [testS, h1, h2, h4, Rs.and]; simpa using h3
  | ok a b => rw [h4] at h3; simp only [Rs.and] at h3; cases h3
theorem value_bad {s : List UInt8} {j j2 j3 : Nat} {x c : Int} (h1 : nameS ts i = .ok s j) (h2 : isW ts j wHas = false) (h3 : howS ts j = .ok x j2) (h5 : valueS ts j2 = .bad j3 c) : testS ts i = .bad j3 c := by
  unfold howS at h3
  cases h4 : oneOfS ts howW j with
  | bad a b => rw [h4] at h3; simp only [Rs.and] at h3; cases h3
  | ok a b => rw [h4] at h3; simp only [Rs.and] at h3; cases h3; simp [testS, h1, h2, h4, h5, Rs.and]
theorem value_ok {s : List UInt8} {j j2 j3 : Nat} {x : Int} {y : Int × Int × List UInt8} (h1 : nameS ts i = .ok s j) (h2 : isW ts j wHas = false) (h3 : howS ts j = .ok x j2) (h5 : valueS ts j2 = .ok y j3) : testS ts i = .ok { n0 with kind := 14, s := s, n := x, vk := y.1, vn := y.2.1, vs := y.2.2 } j3 := by
  unfold howS at h3
  cases h4 : oneOfS ts howW j with
  | bad a b => rw [h4] at h3; simp only [Rs.and] at h3; cases h3
  | ok a b => rw [h4] at h3; simp only [Rs.and] at h3; cases h3; simp [testS, h1, h2, h4, h5, Rs.and]
abbrev S6 (bx : Nat) (C : Array Value) (W : World) : Prop := W.heap[bx]? = some (.cells C 51 (0, 0))
theorem s6_range {bx : Nat} {q : Nd} {W : World} (h : S6 bx q.cells.toArray W) : W.rangeAt bx 0 q.cells := fun j v hv => by rw [block_cell h, Nat.zero_add]; simpa using hv
theorem buildS_one (W : World) (q : Nd) : (Instr.buildSlice 22 1 #[(0, .agg q.cells.toArray)]).run Try.prog W = .ok (.slice (some ⟨W.heap.size, 0, none⟩) 1 1) (W.alloc (.cells ([q].flatMap Nd.cells).toArray 51)) := by
  kernel_rfl
theorem step_bs {ops : Array Oper} {o : Oper} {a : Act} {w : World} {K : Act → World → Prop} {Q : Exit → Act → World → Prop} {E : Prop} {q : Nd} (hgd : o.guard = none) (x : Operand) (ho : o.op = .buildSlice 22 1 #[(0, x)]) (hx : a.eval x = .agg q.cells.toArray)
    (h : K (a.put o.dst (.slice (some ⟨w.heap.size, 0, none⟩) 1 1)) (w.alloc (.cells ([q].flatMap Nd.cells).toArray 51))) : if Region.wanted o (yielded ops a.tmps) = true then Oper.wp Try.prog o a w K Q else E := by
  have hw : Region.wanted o (yielded ops a.tmps) = true := by simp [Region.wanted, hgd]
  rw [if_pos hw]
  unfold Oper.wp execOp
  simp only [ho, List.map_toArray, List.map_cons, List.map_nil, hx, Sem.run_bind, Sem.run_pure, buildS_one, Result.andThen_ok]
  exact h
abbrev zNd : Array Value := #[.int .i64 0, .string ⟨#[]⟩, .int .i64 0, .int .i64 0, .int .i64 0, .int .i64 0, .int .i64 0, .string ⟨#[]⟩, .int .i64 0, .int .i64 0, .int .i64 0, .int .i64 0, .int .i64 0, .int .i64 0, .int .i64 0, .int .i64 0, .slice none 0 0, .slice none 0 0, .slice none 0 0]
def vNd (B : Nat) (w : World) (x : Np) (v : Value) : Prop := ∃ q : Nd, q.np = x ∧ v = .agg q.cells.toArray ∧ NdIn B w q
theorem store_nd {ops : Array Oper} {rest : List Oper} {op : Oper} {a : Act} {w : World} {Q : Exit → Act → World → Prop} (hgd : op.guard = none) (x y : Operand) (ho : op.op = .store 51 x y) {g : Nat} {q : Nd} (hx : a.eval x = dp g) (hy : a.eval y = .agg q.cells.toArray) (h1 : q.cells.toArray.all (·.oneCell') = true) {old : Array Value} (hg : w.heap[g]? = some (.cells old 51 (0, 0))) (hs : old.size = 19)
    (h : ∀ w', w'.heap[g]? = some (.cells q.cells.toArray 51 (0, 0)) → Kp (fun k => k = g) w w' → wpList Try.prog ops Q rest (a.put op.dst undef) w') : wpList Try.prog ops Q (op :: rest) a w :=
  wpList_store_row hgd 51 x y ho hx hy hg size_node (by rw [hs]; rfl) h1 (fun w' h1 h2 _ => h w' h1 h2)
theorem load_nd {ops : Array Oper} {rest : List Oper} {op : Oper} {a : Act} {w : World} {Q : Exit → Act → World → Prop} (hgd : op.guard = none) (x : Operand) (ho : op.op = .load 51 x) {g : Nat} {q : Nd} (hx : a.eval x = dp g) (hg : w.heap[g]? = some (.cells q.cells.toArray 51 (0, 0)))
    (h : wpList Try.prog ops Q rest (a.put op.dst (.agg q.cells.toArray)) w) : wpList Try.prog ops Q (op :: rest) a w :=
  wpList_load_mid hgd 51 x ho g 0 hx q.cells _ (s6_range hg) Try.underlying51 rfl size_node h
/- A node without rows. -/
abbrev bare (n : Np) : Nd := ⟨n, .slice none 0 0, .slice none 0 0, .slice none 0 0⟩
theorem bare_in (B : Nat) (w : World) {n : Np} (h1 : n.l = []) (h2 : n.names = []) (h3 : n.aggs = []) : NdIn B w (bare n) := by
  refine ⟨?_, ?_, ?_⟩
  · show Own _ _ _ _ _ _ n.l; rw [h1]; exact Own.nil _ _ _ _ _
  · show Own _ _ _ _ _ _ n.names; rw [h2]; exact Own.nil _ _ _ _ _
  · show Own _ _ _ _ _ _ n.aggs; rw [h3]; exact Own.nil _ _ _ _ _
theorem bare_all (n : Np) : (bare n).cells.toArray.all (·.oneCell') = true := by simp [Nd.cells, Value.oneCell']
end
end Go.Proofs.Ytcidijjbcebcbaa
