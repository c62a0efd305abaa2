/-
  Rows of a call's own, what stays, how the reader and its nodes lie in memory.
  A time laid down to a multiple of a width.
  The values' cells written out, what Go's comparison of two such values answers, and what OfInt, OfStr, OfBool and ofBuckets of package value return: for every input, with nothing older in memory turned.
  What value.Valid returns, for every value.
-/
import Derived.Test.YtcidijjbcebcbaaProg
import Derived.Test.YtcidijjbcebcbaaKW01
import Derived.Deep.RegionHeld
import Derived.Deep.RegionHeld3
import Derived.Deep.RegionLaw
import Derived.Deep.MidRow
import Derived.Laws.AppendOwnNone
import Derived.OwnWalk
import Derived.Lib.SmallJoins
import Derived.Lib.OwnKind
import Derived.Lib.QuietBelow
import Derived.Shelf.Abstract
import Derived.KernelRfl
import Derived.WalkKit
import Derived.WalkSpells
import Derived.WalkLawsBesides
import Derived.Deep.RegionWith
import Derived.BigQuiet
import Derived.ChangeKeysEq
namespace Go.Proofs.Ytcidijjbcebcbaa
open Go.RowKit Go.Joins

structure Kp (T : Nat → Prop) (w w' : World) : Prop where
  os : w'.os = w.os
  tape : w'.tape = w.tape
  output : w'.output = w.output
  size : w.heap.size ≤ w'.heap.size
  block : ∀ k, k < w.heap.size → ¬ T k → w'.heap[k]? = w.heap[k]?
theorem Kp.refl (T : Nat → Prop) (w : World) : Kp T w w := ⟨rfl, rfl, rfl, Nat.le_refl _, fun _ _ _ => rfl⟩
theorem Kp.of {T : Nat → Prop} {w w' : World} (h : Below w.heap.size w w') : Kp T w w' := ⟨h.os, h.tape, h.output, h.size, fun k hk _ => h.block k hk⟩
theorem Kp.below {T : Nat → Prop} {w w' : World} {B : Nat} (h : Kp T w w') (hB : B ≤ w.heap.size) (hT : ∀ k, T k → B ≤ k) : Below B w w' :=
  ⟨h.os, h.tape, h.output, h.size, fun k hk => h.block k (Nat.lt_of_lt_of_le hk hB) (fun t => by have := hT k t; omega)⟩
theorem Kp.trans {T : Nat → Prop} {a b c : World} (h : Kp T a b) (k : Kp T b c) : Kp T a c :=
  ⟨k.os.trans h.os, k.tape.trans h.tape, k.output.trans h.output, Nat.le_trans h.size k.size, fun i hi ht => (k.block i (Nat.lt_of_lt_of_le hi h.size) ht).trans (h.block i hi ht)⟩
theorem Kp.trans' {T T' : Nat → Prop} {a b c : World} (h : Kp T a b) (k : Kp T' b c) (ht : ∀ i, i < a.heap.size → T' i → T i) : Kp T a c :=
  ⟨k.os.trans h.os, k.tape.trans h.tape, k.output.trans h.output, Nat.le_trans h.size k.size, fun i hi hn => (k.block i (Nat.lt_of_lt_of_le hi h.size) (fun x => hn (ht i hi x))).trans (h.block i hi hn)⟩
theorem Kp.imp {T T' : Nat → Prop} {a b : World} (h : Kp T a b) (ht : ∀ i, i < a.heap.size → T i → T' i) : Kp T' a b :=
  ⟨h.os, h.tape, h.output, h.size, fun i hi hn => h.block i hi (fun x => hn (ht i hi x))⟩
theorem Kp.grown {T : Nat → Prop} {w w' : World} {row : Option Nat} (hg : w.grownBy w' row) (hr : ∀ k, row = some k → T k) : Kp T w w' :=
  ⟨hg.os, hg.tape, hg.output, hg.size, fun k hk ht => hg.block k hk (fun e => ht (hr k e.symm))⟩
theorem Kp.set {T : Nat → Prop} {w : World} {b i : Nat} (hT : T b) (u : Value) : Kp T w (w.setCell ⟨b, i, none⟩ u) :=
  ⟨rfl, rfl, rfl, by simp [World.setCell], fun k _ ht => Below.heap_setCell _ _ _ _ (fun e => ht (by rw [e]; exact hT))⟩
theorem Kp.alloc (T : Nat → Prop) (w : World) (o : Obj) : Kp T w (w.alloc o) := Kp.of ((Below.refl _ _).alloc (Nat.le_refl _) o)
theorem Kp.drew (T : Nat → Prop) (w : World) : Kp T w w.drew := Kp.of (Below.refl _ _).drew
theorem Kp.blk {T : Nat → Prop} {w w' : World} {k : Nat} {o : Obj} (h : Kp T w w') (hk : w.heap[k]? = some o) (ht : ¬ T k) : w'.heap[k]? = some o := (h.block k (lt_of_block hk) ht).trans hk
theorem Kp.cell {T : Nat → Prop} {w w' : World} {k o : Nat} {v : Value} (h : Kp T w w') (hk : w.cell? ⟨k, o, none⟩ = some v) (ht : ¬ T k) : w'.cell? ⟨k, o, none⟩ = some v :=
  (World.cell?_of_block (a := ⟨k, o, none⟩) (h.block k (block_lt_of_cell hk) ht)).trans hk
abbrev dp (b : Nat) : Value := .pointer (some ⟨b, 0, none⟩)
def CellsAt (w : World) (b o : Nat) (xs : List Value) : Prop := ∀ (j : Nat) u, xs[j]? = some u → w.cell? ⟨b, o + j, none⟩ = some u
def SlAt {α : Type} (Q : Nat → Prop) (enc : α → List Value) (k : Nat) (w : World) (v : Value) (xs : List α) : Prop :=
  ∃ (p : Option Addr) (cap : Nat), v = .slice p xs.length cap ∧ (xs.length ≤ cap ∧ cap ≤ maxLen) ∧ (xs ≠ [] → ∃ b o, p = some ⟨b, o, none⟩ ∧ Q b ∧ ∀ (j : Nat) x, xs[j]? = some x → CellsAt w b (o + j * k) (enc x))
theorem CellsAt.kp {T : Nat → Prop} {w w' : World} {b o : Nat} {xs : List Value} (h : CellsAt w b o xs) (hk : Kp T w w') (ht : ¬ T b) : CellsAt w' b o xs := fun j u hj => hk.cell (h j u hj) ht
theorem SlAt.kp {α : Type} {Q T : Nat → Prop} {enc : α → List Value} {k : Nat} {w w' : World} {v : Value} {xs : List α} (h : SlAt Q enc k w v xs) (hk : Kp T w w') (ht : ∀ b, Q b → ¬ T b) : SlAt Q enc k w' v xs := by
  obtain ⟨p, cap, hv, hc, hx⟩ := h
  exact ⟨p, cap, hv, hc, fun hne => let ⟨b, o, hp, hQ, hj⟩ := hx hne; ⟨b, o, hp, hQ, fun j x hjx => (hj j x hjx).kp hk (ht b hQ)⟩⟩
theorem SlAt.on {α : Type} {Q : Nat → Prop} {enc : α → List Value} {k : Nat} {w w' : World} {v : Value} {xs : List α} (h : SlAt Q enc k w v xs) (hb : Below w.heap.size w w') : SlAt Q enc k w' v xs := h.kp (T := fun _ => False) (Kp.of hb) (fun _ _ => id)
theorem SlAt.imp {α : Type} {Q Q' : Nat → Prop} {enc : α → List Value} {k : Nat} {w : World} {v : Value} {xs : List α} (h : SlAt Q enc k w v xs) (hq : ∀ b, Q b → Q' b) : SlAt Q' enc k w v xs := by
  obtain ⟨p, cap, hv, hc, hx⟩ := h
  exact ⟨p, cap, hv, hc, fun hne => let ⟨b, o, hp, hQ, hj⟩ := hx hne; ⟨b, o, hp, hq b hQ, hj⟩⟩
theorem SlAt.form {α : Type} {Q : Nat → Prop} {enc : α → List Value} {k : Nat} {w : World} {v : Value} {xs : List α} (h : SlAt Q enc k w v xs) : ∃ p cap, v = .slice p xs.length cap ∧ xs.length ≤ cap ∧ cap ≤ maxLen := let ⟨p, cap, hv, hc, _⟩ := h; ⟨p, cap, hv, hc.1, hc.2⟩
theorem SlAt.at {α : Type} {Q : Nat → Prop} {enc : α → List Value} {k : Nat} {w : World} {p : Option Addr} {n cap : Nat} {xs : List α} (h : SlAt Q enc k w (.slice p n cap) xs) {j : Nat} {x : α} (hj : xs[j]? = some x) : ∃ b o, p = some ⟨b, o, none⟩ ∧ Q b ∧ CellsAt w b (o + j * k) (enc x) := by
  obtain ⟨p', cap', hv, _, hx⟩ := h
  cases hv
  obtain ⟨b, o, hp, hQ, hc⟩ := hx (by intro e; subst e; simp at hj)
  exact ⟨b, o, hp, hQ, hc j x hj⟩
section
variable {α : Type} {enc : α → List Value} {k : Nat}
theorem flat_get (hk : ∀ x, (enc x).length = k) : ∀ (xs : List α) (j : Nat) x, xs[j]? = some x → ∀ (i : Nat) u, (enc x)[i]? = some u → (xs.flatMap enc)[j * k + i]? = some u
  | [], _, _, h, _, _, _ => by simp at h
  | y :: ys, 0, x, h, i, u, hi => by
    simp at h; subst h
    rw [List.flatMap_cons, Nat.zero_mul, Nat.zero_add, List.getElem?_append_left (by exact (List.getElem?_eq_some_iff.1 hi).1)]
    exact hi
  | y :: ys, j + 1, x, h, i, u, hi => by
    have ih := flat_get hk ys j x (by simpa using h) i u hi
    have e : (j + 1) * k + i = k + (j * k + i) := by rw [Nat.succ_mul]; omega
    rw [List.flatMap_cons, List.getElem?_append_right (by rw [hk]; omega), hk, e, Nat.add_sub_cancel_left]
    exact ih
theorem flat_cells (hk : ∀ x, (enc x).length = k) {w : World} {b : Nat} : ∀ (xs : List α) (o : Nat), (∀ (j : Nat) x, xs[j]? = some x → CellsAt w b (o + j * k) (enc x)) → CellsAt w b o (xs.flatMap enc)
  | [], _, _ => fun j u h => by simp at h
  | y :: ys, o, h => fun j u hj => by
    rw [List.flatMap_cons] at hj
    by_cases hlt : j < k
    · rw [List.getElem?_append_left (by rw [hk]; exact hlt)] at hj
      have := h 0 y rfl j u hj
      rwa [Nat.zero_mul, Nat.add_zero] at this
    · rw [List.getElem?_append_right (by rw [hk]; omega), hk] at hj
      have ih := flat_cells hk ys (o + k) (fun i x hx => by
        have := h (i + 1) x (by simpa using hx)
        have e : o + (i + 1) * k = o + k + i * k := by rw [Nat.succ_mul]; omega
        rwa [e] at this) (j - k) u hj
      have e : o + k + (j - k) = o + j := by omega
      rwa [e] at ih
theorem flat_length (hk : ∀ x, (enc x).length = k) (xs : List α) : (xs.flatMap enc).length = xs.length * k := by
  induction xs with
  | nil => simp
  | cons y ys ih => rw [List.flatMap_cons, List.length_append, hk, ih, List.length_cons, Nat.succ_mul]; omega
end
def Own {α : Type} (enc : α → List Value) (k e : Nat) (B : Nat) (w : World) (v : Value) (xs : List α) : Prop := w.ownsRow B e k v xs.length (xs.flatMap enc)
def ElemN (t e k N : Nat) : Prop := Try.prog.underlying t = some (.slice e) ∧ 0 < k ∧ ∃ i z, Try.prog.info? e = some i ∧ i.zero = some z ∧ i.size = k ∧ i.bytes ≤ N ∧ z.cells.size = k
theorem Own.sl {α : Type} {enc : α → List Value} {k e B : Nat} {w : World} {v : Value} {xs : List α} (h : Own enc k e B w v xs) (hk : ∀ x, (enc x).length = k) : SlAt (fun b => B ≤ b ∧ b < w.heap.size) enc k w v xs := by
  rcases h.2 with ⟨hv, h0⟩ | ⟨g, cap, cur, hv, hg, hblk, hc, hm, q⟩
  · have hn : xs = [] := List.eq_nil_of_length_eq_zero h0
    subst hn
    exact ⟨none, 0, hv, ⟨by simp, by unfold maxLen; omega⟩, fun hne => absurd rfl hne⟩
  · refine ⟨some ⟨g, 0, none⟩, cap, hv, ⟨hc, hm⟩, fun _ => ⟨g, 0, rfl, ⟨hg, lt_of_block hblk⟩, fun j x hx i u hi => ?_⟩⟩
    have := World.ownsRow.cells h (g := g) (by rw [hv]; rfl) (j * k + i) u (flat_get hk xs j x hx i u hi)
    rw [Addr.add_lit, Nat.zero_add] at this
    rw [Nat.zero_add]
    exact this
theorem Own.nil {α : Type} (enc : α → List Value) (k e B : Nat) (w : World) : Own enc k e B w (.slice none 0 0) ([] : List α) := World.ownsRow_nil w B e k
theorem Own.blk {α : Type} {enc : α → List Value} {k e B : Nat} {w : World} {g : Nat} {xs : List α} (hk : ∀ x, (enc x).length = k) (hg : B ≤ g) (h : w.heap[g]? = some (.cells (xs.flatMap enc).toArray e (0, 0))) (hm : xs.length ≤ maxLen) : Own enc k e B w (.slice (some ⟨g, 0, none⟩) xs.length xs.length) xs := by
  refine ⟨flat_length hk xs, .inr ⟨g, xs.length, _, rfl, hg, h, Nat.le_refl _, hm, ?_, ?_⟩⟩
  · simp only [List.size_toArray]; exact flat_length hk xs
  · show (xs.flatMap enc).take (xs.length * k) = _
    rw [← flat_length hk xs]; exact List.take_length
theorem Own.kp {α : Type} {enc : α → List Value} {k e B : Nat} {T : Nat → Prop} {w w' : World} {v : Value} {xs : List α} (h : Own enc k e B w v xs) (hk : Kp T w w') (ht : ∀ g, v.ownBlock = some g → ¬ T g) : Own enc k e B w' v xs := by
  refine ⟨h.1, ?_⟩
  rcases h.2 with h0 | ⟨g, cap, cur, hv, hg, hblk, hc⟩
  · exact .inl h0
  · exact .inr ⟨g, cap, cur, hv, hg, hk.blk hblk (ht g (by rw [hv]; rfl)), hc⟩
theorem Own.on {α : Type} {enc : α → List Value} {k e B : Nat} {w w' : World} {v : Value} {xs : List α} (h : Own enc k e B w v xs) (hb : Below w.heap.size w w') : Own enc k e B w' v xs := h.kp (T := fun _ => False) (Kp.of hb) (fun _ _ => id)
theorem Own.at {α : Type} {enc : α → List Value} {k e B : Nat} {w : World} {v : Value} {xs : List α} (h : Own enc k e B w v xs) {g : Nat} (hg : v.ownBlock = some g) : B ≤ g ∧ g < w.heap.size := World.ownsRow.lt h g hg
theorem Own.kind {α : Type} {enc : α → List Value} {k e B : Nat} {w : World} {v : Value} {xs : List α} (h : Own enc k e B w v xs) {g : Nat} (hg : v.ownBlock = some g) : ∃ c fz, w.heap[g]? = some (.cells c e fz) := Lib.ownsRow_kind h g hg
theorem Own.form {α : Type} {enc : α → List Value} {k e B : Nat} {w : World} {v : Value} {xs : List α} (h : Own enc k e B w v xs) : ∃ p c, v = .slice p xs.length c := by
  rcases h.2 with ⟨hv, h0⟩ | ⟨g, cap, cur, hv, hg, hblk, q⟩
  · exact ⟨none, 0, by rw [hv, h0]⟩
  · exact ⟨_, cap, hv⟩
theorem Own.le {α : Type} {enc : α → List Value} {k e B B' : Nat} {w : World} {v : Value} {xs : List α} (h : Own enc k e B w v xs) (hb : B' ≤ B) : Own enc k e B' w v xs := by
  refine ⟨h.1, ?_⟩
  rcases h.2 with h0 | ⟨g, cap, cur, hv, hg, hblk, hc⟩
  · exact .inl h0
  · exact .inr ⟨g, cap, cur, hv, Nat.le_trans hb hg, hblk, hc⟩
theorem app_N {ops : Array Oper} {rest : List Oper} {o : Oper} {a : Act} {Q : Exit → Act → World → Prop} {w : World} {α : Type} {enc : α → List Value} {k e t B N : Nat} {Qb : Nat → Prop} {xs ys : List α} {v u : Value}
    (hE : ElemN t e k N) (hk : ∀ x, (enc x).length = k) (h1 : ∀ y ∈ ys, ∀ c ∈ enc y, c.oneCell' = true) (hgd : o.guard = none) (s x : Operand) (ho : o.op = .call { callee := .builtin .append, args := #[s, x], argTypes := #[t, t] })
    (hs : a.eval s = v) (hown : Own enc k e B w v xs) (hx : a.eval x = u) (hu : SlAt Qb enc k w u ys) (hne : ys ≠ []) (hb : (xs.length + ys.length) * N ≤ 140737488355328) (hN : 1 ≤ N) (hB : B ≤ w.heap.size)
    (h : ∀ v' w', Own enc k e B w' v' (xs ++ ys) → w.grownBy w' v.ownBlock → wpList Try.prog ops Q rest (a.put o.dst v') w') : wpList Try.prog ops Q (o :: rest) a w := by
  refine wpList_plain hgd fun K hK => ?_
  obtain ⟨ht, hkp, i0, z, hi, hz0, hz1, hz2, hzs⟩ := hE
  obtain ⟨p, cap, rfl, ⟨hcap, hmax⟩, hy⟩ := hu
  obtain ⟨b, o', rfl, _, hcell⟩ := hy hne
  refine wp_append_own w s x t ho B e i0 z k i0.bytes ht hi hz0 hz1 rfl hzs hkp v xs.length _ hs hown ⟨b, o', none⟩ ys.length cap (ys.flatMap enc) hx (flat_length hk ys) ?_ ?_ ?_ (Nat.le_trans (Nat.mul_le_mul_left _ hz2) hb) hB ?_
  · intro j c hj
    rw [Addr.add_lit]
    exact flat_cells hk ys o' hcell j c hj
  · intro c hc
    obtain ⟨y, hy', hcy⟩ := List.mem_flatMap.1 hc
    exact h1 y hy' c hcy
  · have : (xs.length + ys.length) * 1 ≤ (xs.length + ys.length) * N := Nat.mul_le_mul_left _ hN
    unfold maxLen; omega
  · intro v' w' h2 h3 h4
    refine hK _ _ (h v' w' ?_ h3)
    show w'.ownsRow B e k v' (xs ++ ys).length ((xs ++ ys).flatMap enc)
    rw [List.length_append, List.flatMap_append]; exact h2
def At (w : World) (v v' : Value) : Prop := ∀ k, v'.ownBlock = some k → v.ownBlock = some k ∨ w.heap.size ≤ k
theorem At.refl (w : World) (v : Value) : At w v v := fun _ h => .inl h
theorem append_at {P : Program} (w : World) (base : Nat) (t ty e : TypeId) (i : TypeInfo) (z : Value) (size bytes : Nat) (ht : P.underlying t = some (.slice e)) (hi : P.info? e = some i) (hz : i.zero = some z)
    (hsize : i.size = size) (hby : i.bytes = bytes) (hzs : z.cells.size = size) (hsz : 0 < size)
    (v : Value) (n : Nat) (xs : List Value) (hown : w.ownsRow base e size v n xs)
    (a : Addr) (m c : Nat) (news : List Value) (hl : news.length = m * size) (hnews : ∀ j u, news[j]? = some u → w.cell? (a.add j) = some u) (h1 : ∀ u ∈ news, u.oneCell' = true)
    (h63 : n + m ≤ maxLen) (hbytes : (n + m) * bytes ≤ 140737488355328) {v' : Value} {w' : World} (hr : (Builtin.append_ #[t, t] ty #[v, .slice (some a) m c]).run P w = .ok v' w') : At w v v' := by
  intro k hk
  have hsmall : n + m ≤ 9223372036854775807 := by simp only [maxLen] at h63; omega
  rcases hown.2 with ⟨rfl, rfl⟩ | ⟨g, cap, cur, rfl, hbg, hg, hnc, hcm, hcs, htake⟩
  · have hx : xs = [] := List.eq_nil_of_length_eq_zero (by simpa using hown.1)
    subst hx
    obtain ⟨v2, w2, hr2, ho2, -, -⟩ := run_append_own (P := P) w w.heap.size t ty e i z size bytes ht hi hz hsize hby hzs hsz _ 0 [] (World.ownsRow_nil w w.heap.size e size) a m c news hl hnews h1 h63 hbytes (Nat.le_refl _)
    rw [hr] at hr2
    cases hr2
    exact .inr (World.ownsRow.lt ho2 k hk).1
  · subst hsize
    by_cases hroom : n + m ≤ cap
    · have hfit : n * i.size + news.length ≤ cur.size := by rw [hl, hcs, ← Nat.add_mul]; exact Nat.mul_le_mul_right _ hroom
      have hr2 := run_append_room (P := P) w t ty e i ht hi g n cap cur hg a m c news hl hnews h1 hroom hfit
      rw [hr] at hr2
      cases hr2
      exact .inl hk
    · have holds : ∀ j u, xs[j]? = some u → w.cell? ((⟨g, 0, none⟩ : Addr).add j) = some u := World.ownsRow.cells hown (g := g) rfl
      have hr2 := run_append_grow (P := P) w t ty e i z ht hi hz ⟨g, 0, none⟩ n cap xs hown.1 holds a m c news hl hnews (by omega) (by omega) (growslice_fits (by omega) (by rw [hby]; exact hbytes))
      rw [hr] at hr2
      cases hr2
      cases hk
      exact .inr (Nat.le_refl _)
theorem step_appP {ops : Array Oper} {o : Oper} {a : Act} {w : World} {K : Act → World → Prop} {Q : Exit → Act → World → Prop} {E : Prop} {α : Type} {enc : α → List Value} {k e t B N : Nat} {Qb : Nat → Prop} {xs ys : List α} {v u : Value}
    (hE : ElemN t e k N) (hk : ∀ x, (enc x).length = k) (h1 : ∀ y ∈ ys, ∀ c ∈ enc y, c.oneCell' = true) (hgd : o.guard = none) (s x : Operand) (ho : o.op = .call { callee := .builtin .append, args := #[s, x], argTypes := #[t, t] })
    (hs : a.eval s = v) (hx : a.eval x = u) (hown : Own enc k e B w v xs) (hu : SlAt Qb enc k w u ys) (hne : ys ≠ []) (hb : (xs.length + ys.length) * N ≤ 140737488355328) (hN : 1 ≤ N) (hB : B ≤ w.heap.size)
    (h : ∀ v' w', Own enc k e B w' v' (xs ++ ys) → w.grownBy w' v.ownBlock → At w v v' → K (a.put o.dst v') w') : if Region.wanted o (yielded ops a.tmps) = true then Oper.wp Try.prog o a w K Q else E := by
  have hw : Region.wanted o (yielded ops a.tmps) = true := by simp [Region.wanted, hgd]
  rw [if_pos hw]
  obtain ⟨ht, hkp, i0, z, hi, hz0, hz1, hz2, hzs⟩ := hE
  obtain ⟨p, cap, rfl, ⟨hcap, hmax⟩, hy⟩ := hu
  obtain ⟨b, o', rfl, _, hcell⟩ := hy hne
  have hnews : ∀ (j : Nat) c, (ys.flatMap enc)[j]? = some c → w.cell? ((⟨b, o', none⟩ : Addr).add j) = some c := by
    intro j c hj
    rw [Addr.add_lit]
    exact flat_cells hk ys o' hcell j c hj
  have h1' : ∀ c ∈ ys.flatMap enc, c.oneCell' = true := by
    intro c hc
    obtain ⟨y, hy', hcy⟩ := List.mem_flatMap.1 hc
    exact h1 y hy' c hcy
  have h63 : xs.length + ys.length ≤ maxLen := by
    have : (xs.length + ys.length) * 1 ≤ (xs.length + ys.length) * N := Nat.mul_le_mul_left _ hN
    unfold maxLen; omega
  have hby : (xs.length + ys.length) * i0.bytes ≤ 140737488355328 := Nat.le_trans (Nat.mul_le_mul_left _ hz2) hb
  obtain ⟨v', w', hr, h2, h3, h4⟩ := run_append_own (P := Try.prog) w B t o.type e i0 z k i0.bytes ht hi hz0 hz1 rfl hzs hkp v xs.length _ hown ⟨b, o', none⟩ ys.length cap (ys.flatMap enc) (flat_length hk ys) hnews h1' h63 hby hB
  have h5 := append_at (P := Try.prog) w B t o.type e i0 z k i0.bytes ht hi hz0 hz1 rfl hzs hkp v xs.length _ hown ⟨b, o', none⟩ ys.length cap (ys.flatMap enc) (flat_length hk ys) hnews h1' h63 hby hr
  unfold Oper.wp execOp
  simp only [ho, resolve, invoke, builtin, Sem.run_bind, Sem.run_pure, Result.andThen_ok, List.map_toArray, List.map_cons, List.map_nil, hs, hx, hr]
  refine h v' w' ?_ h3 h5
  show w'.ownsRow B e k v' (xs ++ ys).length ((xs ++ ys).flatMap enc)
  rw [List.length_append, List.flatMap_append]; exact h2
theorem wpList_store_row {ops : Array Oper} {rest : List Oper} {o : Oper} {a : Act} {w : World} {Q : Exit → Act → World → Prop} (hgd : o.guard = none) (ty : TypeId) (x y : Operand) (ho : o.op = .store ty x y)
    {g : Nat} {cells : Array Value} (hx : a.eval x = .pointer (some ⟨g, 0, none⟩)) (hy : a.eval y = .agg cells)
    {t : TypeId} {old : Array Value} (hg : w.heap[g]? = some (.cells old t (0, 0))) (hi : (Try.prog.info? ty).map (·.size) = some cells.size)
    (hold : old.size = cells.size) (h1 : cells.all (·.oneCell') = true)
    (h : ∀ w', w'.heap[g]? = some (.cells cells t (0, 0)) → Kp (fun k => k = g) w w' → w'.heap.size = w.heap.size → wpList Try.prog ops Q rest (a.put o.dst undef) w') : wpList Try.prog ops Q (o :: rest) a w :=
  wpList_plain hgd fun _ hK => wp_store_row ty x y ho g cells hx hy t old hg hi hold h1 (hK _ _ (h _ (setRow_heap w g old _ t _ hg) ⟨rfl, rfl, rfl, by simp, fun k _ hk => setRow_other w g k _ hk⟩ (by simp)))
abbrev int1 (x : Int) : List Value := [.int .i64 x]
abbrev str1 (x : List UInt8) : List Value := [.string (St x)]
abbrev ag2 (x : Int × List UInt8) : List Value := [.int .i64 x.1, .string (St x.2)]
/- A token's cells; a node's, with the values of its three rows. -/
def Tp.cells (t : Tp) : List Value := [.int .i64 t.kind, .string (St t.s), .int .i64 t.n, .int .i64 t.at_]
abbrev TkV (t : Tp) : Value := .agg #[.int .i64 t.kind, .string (St t.s), .int .i64 t.n, .int .i64 t.at_]
structure Nd where
  np : Np
  lv : Value
  nv : Value
  gv : Value
def Nd.cells (q : Nd) : List Value := [.int .i64 q.np.kind, .string (St q.np.s), .int .i64 q.np.n, .int .i64 q.np.from_, .int .i64 q.np.to_, .int .i64 q.np.vk, .int .i64 q.np.vn, .string (St q.np.vs), .int .i64 0, .int .i64 0, .int .i64 0, .int .i64 0, .int .i64 0, .int .i64 0, .int .i64 0, .int .i64 0, q.lv, q.nv, q.gv]
abbrev NdV (n : Np) (l v g : Value) : Array Value := #[.int .i64 n.kind, .string (St n.s), .int .i64 n.n, .int .i64 n.from_, .int .i64 n.to_, .int .i64 n.vk, .int .i64 n.vn, .string (St n.vs), .int .i64 0, .int .i64 0, .int .i64 0, .int .i64 0, .int .i64 0, .int .i64 0, .int .i64 0, .int .i64 0, l, v, g]
theorem nd_len (q : Nd) : q.cells.length = 19 := rfl
theorem tp_len (t : Tp) : t.cells.length = 4 := rfl
theorem info_node : (Try.prog.info? 51).map (fun i => (i.zero, i.size, i.bytes)) = some (some (.agg (NdV n0 (.slice none 0 0) (.slice none 0 0) (.slice none 0 0))), 19, 216) := by kernel_rfl
theorem elem_node : ElemN 22 51 19 216 := by
  obtain ⟨i, hi, h0, h1, h2⟩ := info_parts info_node
  exact ⟨Try.underlying22, by omega, i, _, hi, h0, h1, Nat.le_of_eq h2, rfl⟩
theorem info_str : (Try.prog.info? 9).map (fun i => (i.zero, i.size, i.bytes)) = some (some (.string ⟨#[]⟩), 1, 16) := by kernel_rfl
theorem elem_str : ElemN 48 9 1 16 := by
  obtain ⟨i, hi, h0, h1, h2⟩ := info_parts info_str
  exact ⟨Try.underlying48, by omega, i, _, hi, h0, h1, Nat.le_of_eq h2, rfl⟩
theorem info_int : (Try.prog.info? 3).map (fun i => (i.zero, i.size, i.bytes)) = some (some (.int .i64 0), 1, 8) := by kernel_rfl
theorem elem_int : ElemN 47 3 1 8 := by
  obtain ⟨i, hi, h0, h1, h2⟩ := info_parts info_int
  exact ⟨Try.underlying47, by omega, i, _, hi, h0, h1, Nat.le_of_eq h2, rfl⟩
theorem info_agg : (Try.prog.info? 199).map (fun i => (i.zero, i.size, i.bytes)) = some (some (.agg #[.int .i64 0, .string ⟨#[]⟩]), 2, 24) := by kernel_rfl
theorem elem_agg : ElemN 49 199 2 24 := by
  obtain ⟨i, hi, h0, h1, h2⟩ := info_parts info_agg
  exact ⟨Try.underlying49, by omega, i, _, hi, h0, h1, Nat.le_of_eq h2, rfl⟩
theorem size_node : (Try.prog.info? 51).map (·.size) = some 19 := by kernel_rfl
/- The node's rows are of the call's own. -/
structure NdIn (B : Nat) (w : World) (q : Nd) : Prop where
  l : Own int1 1 3 B w q.lv q.np.l
  n : Own str1 1 9 B w q.nv q.np.names
  g : Own ag2 2 199 B w q.gv q.np.aggs
theorem Own.one {α : Type} {enc : α → List Value} {k e B : Nat} {w : World} {v : Value} {xs : List α} (h : Own enc k e B w v xs) : v.oneCell' = true := by
  obtain ⟨p, c, rfl⟩ := h.form; rfl
theorem NdIn.one {B : Nat} {w : World} {q : Nd} (h : NdIn B w q) : ∀ c ∈ q.cells, c.oneCell' = true := by
  intro v hv
  have h1 := h.l.one
  have h2 := h.n.one
  have h3 := h.g.one
  simp [Nd.cells] at hv
  rcases hv with rfl | rfl | rfl | rfl | rfl | rfl | rfl | rfl | rfl | rfl | rfl | rfl | rfl | rfl | rfl | rfl | rfl | rfl | rfl <;> first | rfl | assumption
theorem NdIn.all {B : Nat} {w : World} {q : Nd} (h : NdIn B w q) : q.cells.toArray.all (·.oneCell') = true := all_oneCell_toArray h.one
theorem NdIn.le {B B' : Nat} {w : World} {q : Nd} (h : NdIn B w q) (hb : B' ≤ B) : NdIn B' w q := ⟨h.l.le hb, h.n.le hb, h.g.le hb⟩
/- Blocks that may turn: of the reader's and the nodes' types. -/
def TK (w : World) (T : Nat → Prop) : Prop := ∀ k, T k → ∀ c t fz, w.heap[k]? = some (.cells c t fz) → t ≠ 3 ∧ t ≠ 9 ∧ t ≠ 199
theorem Own.kpk {α : Type} {enc : α → List Value} {k e B : Nat} {T : Nat → Prop} {w w' : World} {v : Value} {xs : List α} (h : Own enc k e B w v xs) (hk : Kp T w w') (ht : ∀ g, T g → ∀ c t fz, w.heap[g]? = some (.cells c t fz) → t ≠ e) : Own enc k e B w' v xs :=
  h.kp hk (fun g hg hT => by obtain ⟨c, fz, hc⟩ := h.kind hg; exact ht g hT _ _ _ hc rfl)
theorem NdIn.kp {B : Nat} {w w' : World} {q : Nd} {T : Nat → Prop} (h : NdIn B w q) (hk : Kp T w w') (ht : TK w T) : NdIn B w' q :=
  ⟨h.l.kpk hk (fun g hT c t fz hc => (ht g hT c t fz hc).1), h.n.kpk hk (fun g hT c t fz hc => (ht g hT c t fz hc).2.1), h.g.kpk hk (fun g hT c t fz hc => (ht g hT c t fz hc).2.2)⟩
theorem TK.no (w : World) : TK w (fun _ => False) := fun _ h => h.elim
theorem NdIn.on {B : Nat} {w w' : World} {q : Nd} (h : NdIn B w q) (hb : Below w.heap.size w w') : NdIn B w' q := h.kp (T := fun _ => False) (Kp.of hb) (TK.no w)
def Tq (rb : Nat) (sv : Value) (k : Nat) : Prop := k = rb ∨ sv.ownBlock = some k
section
variable {B : Nat} {ts : List Tp} {w w' : World} {rb : Nat} {tv sv : Value} {o i : Nat} {qs : List Nd}
end
abbrev dies (v : Value) : Ending := .panicked [{ v := v, recovered := false }]
theorem At.trans {w w1 : World} {a b c : Value} (h : At w a b) (h2 : At w1 b c) (hs : w.heap.size ≤ w1.heap.size) : At w a c := fun k hk => by
  rcases h2 k hk with h3 | h3
  · exact h k h3
  · exact .inr (Nat.le_trans hs h3)
/- One call behind another. -/
theorem Kp.next {rb : Nat} {sv sv' : Value} {w w1 w2 : World} (h : Kp (Tq rb sv) w w1) (ha : At w sv sv') (h2 : Kp (Tq rb sv') w1 w2) : Kp (Tq rb sv) w w2 :=
  h.trans' h2 (fun k hk ht => by
    rcases ht with e | e
    · exact .inl e
    · rcases ha k e with e | e
      · exact .inr e
      · omega)
theorem Kp.r {rb : Nat} {sv : Value} {w w1 : World} (h : Kp (fun k => k = rb) w w1) : Kp (Tq rb sv) w w1 := h.imp (fun _ _ e => .inl e)
end Go.Proofs.Ytcidijjbcebcbaa
namespace Go.Proofs.Ytcidijjbcebcbaa.RO
open Go.RowKit Go.Joins

/- The greatest multiple of w that is not above n; n, where that lies below all numbers. -/
def mulW (n w : Int) : Int := if n < -9223372036854775808 + n % w then n else n - n % w
def InI (n : Int) : Prop := -9223372036854775808 ≤ n ∧ n ≤ 9223372036854775807
theorem tmod_or {n w : Int} (hw : 1 ≤ w) : n.tmod w = n % w ∨ (n.tmod w = n % w - w ∧ ¬ n % w = 0) := by
  have h5 := Int.tmod_eq_emod (a := n) (b := w)
  by_cases h : 0 ≤ n ∨ w ∣ n
  · rw [if_pos h] at h5; left; omega
  · rw [if_neg h] at h5
    right
    refine ⟨by omega, fun e => h (Or.inr (Int.dvd_of_emod_eq_zero e))⟩
theorem tmod_neg {n w : Int} (hw : 1 ≤ w) (h : n.tmod w < 0) : n % w = n.tmod w + w := by
  have h1 := Int.emod_nonneg n (show w ≠ 0 by omega)
  have h2 := tmod_or (n := n) hw
  omega
theorem tmod_pos {n w : Int} (hw : 1 ≤ w) (h : ¬ n.tmod w < 0) : n % w = n.tmod w := by
  have h1 := Int.emod_lt_of_pos n (show 0 < w by omega)
  have h2 := tmod_or (n := n) hw
  omega
theorem tmod_in {n w : Int} (hw : 1 ≤ w) : - w < n.tmod w ∧ n.tmod w < w := by
  have h1 := Int.emod_nonneg n (show w ≠ 0 by omega)
  have h3 := Int.emod_lt_of_pos n (show 0 < w by omega)
  have h2 := tmod_or (n := n) hw
  omega
set_option maxRecDepth 100000 in
set_option maxHeartbeats 2000000 in
theorem multiple_any {n w : Int} (hn : InI n) (hw : 1 ≤ w ∧ w ≤ 9223372036854775807) (wo : World) : Calls Try.prog 91 #[.int .i64 n, .int .i64 w] wo fun e w' => e = .returned (.int .i64 (mulW n w)) ∧ w' = wo := by
  obtain ⟨n1, n2⟩ := hn
  obtain ⟨w1, w2⟩ := hw
  have hw0 : ¬ w = 0 := by omega
  obtain ⟨t1, t2⟩ := tmod_in (n := n) w1
  obtain ⟨z, hz⟩ : ∃ z, z = mulW n w := ⟨_, rfl⟩
  rw [← hz]
  have HZ := hid hz
  clear hz
  by_cases h1 : n.tmod w < 0
  · have e1 := hid (tmod_neg w1 h1)
    obtain ⟨r, hr⟩ : ∃ r, n.tmod w + w = r := ⟨_, rfl⟩
    have HR := hid hr
    by_cases h2 : n < -9223372036854775808 + r
    · have h3 : z = n := by rw [HZ.out]; unfold mulW; rw [e1.out, HR.out, if_pos h2]
      subst h3
      go_enter Try.func91, Try.ntmps91
      go_wp2
      all_goals (go_ret; exact ⟨rfl, rfl⟩)
    · have h3 : z = n - r := by rw [HZ.out]; unfold mulW; rw [e1.out, HR.out, if_neg h2]
      subst h3
      go_enter Try.func91, Try.ntmps91
      go_wp2
      all_goals (go_ret; exact ⟨rfl, rfl⟩)
  · have e1 := hid (tmod_pos w1 h1)
    by_cases h2 : n < -9223372036854775808 + n.tmod w
    · have h3 : z = n := by rw [HZ.out]; unfold mulW; rw [e1.out, if_pos h2]
      subst h3
      go_enter Try.func91, Try.ntmps91
      go_wp2
      all_goals (go_ret; exact ⟨rfl, rfl⟩)
    · have h3 : z = n - n.tmod w := by rw [HZ.out]; unfold mulW; rw [e1.out, if_neg h2]
      subst h3
      go_enter Try.func91, Try.ntmps91
      go_wp2
      all_goals (go_ret; exact ⟨rfl, rfl⟩)
end Go.Proofs.Ytcidijjbcebcbaa.RO
namespace Go.Proofs.Ytcidijjbcebcbaa.TN
open Go.RowKit

/- A value's eleven cells, written out; its buckets' eight. -/
abbrev V (k n : Int) (s : ByteArray) (a0 a1 a2 a3 a4 a5 a6 a7 : Int) : Value := .agg #[.int .i64 k, .int .i64 n, .string s, .int .i64 a0, .int .i64 a1, .int .i64 a2, .int .i64 a3, .int .i64 a4, .int .i64 a5, .int .i64 a6, .int .i64 a7]
abbrev H8 (a0 a1 a2 a3 a4 a5 a6 a7 : Int) : Value := .agg #[.int .i64 a0, .int .i64 a1, .int .i64 a2, .int .i64 a3, .int .i64 a4, .int .i64 a5, .int .i64 a6, .int .i64 a7]

def eqH (a0 a1 a2 a3 a4 a5 a6 a7 b0 b1 b2 b3 b4 b5 b6 b7 : Int) : Bool :=
  decide (a0 = b0 ∧ a1 = b1 ∧ a2 = b2 ∧ a3 = b3 ∧ a4 = b4 ∧ a5 = b5 ∧ a6 = b6 ∧ a7 = b7)
def eqV (k n : Int) (s : ByteArray) (a0 a1 a2 a3 a4 a5 a6 a7 : Int) (k' n' : Int) (s' : ByteArray) (b0 b1 b2 b3 b4 b5 b6 b7 : Int) : Bool :=
  decide (k = k' ∧ n = n' ∧ s = s') && eqH a0 a1 a2 a3 a4 a5 a6 a7 b0 b1 b2 b3 b4 b5 b6 b7

theorem equalIn22 (a0 a1 a2 a3 a4 a5 a6 a7 b0 b1 b2 b3 b4 b5 b6 b7 : Int) (d : Nat) (w : World) :
    (Op.equalIn (d + 2) 37 (H8 a0 a1 a2 a3 a4 a5 a6 a7) (H8 b0 b1 b2 b3 b4 b5 b6 b7)).run Try.prog w = .ok (eqH a0 a1 a2 a3 a4 a5 a6 a7 b0 b1 b2 b3 b4 b5 b6 b7) w := by
  have u3 := Try.underlying3
  have a3' := Try.isAgg3
  have z3 := Try.sizeOf3
  rw [show d + 2 = (d + 1) + 1 from rfl, Op.equalIn]
  simp only [Sem.run_bind, run_underlying Try.underlying37, Result.andThen_ok]
  simp only [Std.Legacy.Range.forIn_eq_forIn_range', Std.Legacy.Range.size, Nat.sub_zero, Nat.add_sub_cancel, Nat.div_one, List.range'_succ, List.range'_zero, List.forIn_cons, List.forIn_nil]
  go_simp
  unfold eqH
  by_cases h0 : a0 = b0
  · by_cases h1 : a1 = b1
    · by_cases h2 : a2 = b2
      · by_cases h3 : a3 = b3
        · by_cases h4 : a4 = b4
          · by_cases h5 : a5 = b5
            · by_cases h6 : a6 = b6
              · by_cases h7 : a7 = b7 <;> simp [h0, h1, h2, h3, h4, h5, h6, h7]
              · simp [h0, h1, h2, h3, h4, h5, h6]
            · simp [h0, h1, h2, h3, h4, h5]
          · simp [h0, h1, h2, h3, h4]
        · simp [h0, h1, h2, h3]
      · simp [h0, h1, h2]
    · simp [h0, h1]
  · simp [h0]
theorem eql22 (a0 a1 a2 a3 a4 a5 a6 a7 b0 b1 b2 b3 b4 b5 b6 b7 : Int) (w : World) :
    (Op.equalIn 10000 37 (H8 a0 a1 a2 a3 a4 a5 a6 a7) (H8 b0 b1 b2 b3 b4 b5 b6 b7)).run Try.prog w = .ok (eqH a0 a1 a2 a3 a4 a5 a6 a7 b0 b1 b2 b3 b4 b5 b6 b7) w :=
  equalIn22 _ _ _ _ _ _ _ _ _ _ _ _ _ _ _ _ 9998 w
theorem bytes_toList_inj {s t : ByteArray} (h : s.toList = t.toList) : s = t := by
  rw [ByteArray.toList_eq, ByteArray.toList_eq] at h
  obtain ⟨⟨x⟩⟩ := s
  obtain ⟨⟨y⟩⟩ := t
  simp at h
  subst h; rfl
theorem bytes_beq (s t : ByteArray) : (s.toList == t.toList) = decide (s = t) := by
  by_cases h : s = t
  · subst h; simp
  · have : ¬ s.toList = t.toList := fun e => h (bytes_toList_inj e)
    simp [h, this]
theorem equalIn24 (k n : Int) (s : ByteArray) (a0 a1 a2 a3 a4 a5 a6 a7 : Int) (k' n' : Int) (s' : ByteArray) (b0 b1 b2 b3 b4 b5 b6 b7 : Int) (d : Nat) (w : World) :
    (Op.equalIn (d + 3) 39 (V k n s a0 a1 a2 a3 a4 a5 a6 a7) (V k' n' s' b0 b1 b2 b3 b4 b5 b6 b7)).run Try.prog w = .ok (eqV k n s a0 a1 a2 a3 a4 a5 a6 a7 k' n' s' b0 b1 b2 b3 b4 b5 b6 b7) w := by
  have u3 := Try.underlying3
  have a3' := Try.isAgg3
  have z3 := Try.sizeOf3
  have u9 := Try.underlying9
  have a9' := Try.isAgg9
  have z9 := Try.sizeOf9
  have a22' := Try.isAgg37
  have z22 := Try.sizeOf37
  have hS : Try.prog.underlying 39 = some (.struct (Try.prog.fieldsOf 39)) := by kernel_rfl
  have e22 := equalIn22 a0 a1 a2 a3 a4 a5 a6 a7 b0 b1 b2 b3 b4 b5 b6 b7 d
  rw [show d + 3 = (d + 2) + 1 from rfl, run_equalIn_agg w (d + 2) 39 _ _ hS Try.stoodInHeld39]
  simp only [Program.fieldsOf, Try.underlying39]
  have hb := bytes_beq s s'
  go_simp
  unfold eqV
  by_cases h0 : k = k'
  · by_cases h1 : n = n'
    · by_cases h2 : s = s'
      · cases eqH a0 a1 a2 a3 a4 a5 a6 a7 b0 b1 b2 b3 b4 b5 b6 b7 <;> simp [h0, h1, h2]
      · simp [h0, h1, h2]
    · simp [h0, h1]
  · simp [h0]
theorem eql24 (k n : Int) (s : ByteArray) (a0 a1 a2 a3 a4 a5 a6 a7 : Int) (k' n' : Int) (s' : ByteArray) (b0 b1 b2 b3 b4 b5 b6 b7 : Int) (w : World) :
    (Op.equalIn 10000 39 (V k n s a0 a1 a2 a3 a4 a5 a6 a7) (V k' n' s' b0 b1 b2 b3 b4 b5 b6 b7)).run Try.prog w = .ok (eqV k n s a0 a1 a2 a3 a4 a5 a6 a7 k' n' s' b0 b1 b2 b3 b4 b5 b6 b7) w :=
  equalIn24 _ _ _ _ _ _ _ _ _ _ _ _ _ _ _ _ _ _ _ _ _ _ 9997 w
theorem bcell {W w1 : World} (hb : Below W.heap.size W w1) : (∀ b o, b < W.heap.size → w1.cell? ⟨b, o, none⟩ = W.cell? ⟨b, o, none⟩) ∧ (∀ b o, b < W.heap.size → w1.frozen? ⟨b, o, none⟩ = W.frozen? ⟨b, o, none⟩) :=
  ⟨fun b o h => hb.cell (p := ⟨b, o, none⟩) h, fun b o h => hb.frozen (p := ⟨b, o, none⟩) h⟩

set_option maxHeartbeats 400000 in
theorem ofInt_any {n : Int} {w : World} :
    Calls Try.prog 142 #[.int .i64 n] w fun e w' => e = .returned (V 1 n ⟨#[]⟩ 0 0 0 0 0 0 0 0) ∧ Below w.heap.size w w' := by
  go_enter Try.func142, Try.ntmps142
  go_wp2
  exact bodyPost_ret (v := V 1 n ⟨#[]⟩ 0 0 0 0 0 0 0 0) (by simp [results, Try.results142, go_sem]) rfl ⟨rfl, (Below.refl _ _).alloc (Nat.le_refl _) _⟩
def cut64 (s : ByteArray) : ByteArray := s.extract 0 64
theorem cut64_short {s : ByteArray} (h : s.size ≤ 64) : cut64 s = s := by
  unfold cut64
  apply bytes_toList_inj
  rw [ByteArray.toList_eq, ByteArray.toList_eq]
  obtain ⟨⟨x⟩⟩ := s
  simp [ByteArray.size] at h
  rw [ByteArray.data_extract]
  simp [List.take_of_length_le h]
set_option maxHeartbeats 400000 in
theorem ofStr_any {s : ByteArray} {w : World} :
    Calls Try.prog 143 #[.string s] w fun e w' => e = .returned (V 2 0 (cut64 s) 0 0 0 0 0 0 0 0) ∧ Below w.heap.size w w' := by
  by_cases h : 64 < (s.size : Int)
  · go_enter Try.func143, Try.ntmps143
    go_wp2
    exact bodyPost_ret (v := V 2 0 (cut64 s) 0 0 0 0 0 0 0 0) (by simp [results, Try.results143, go_sem, cut64]) rfl ⟨rfl, (Below.refl _ _).alloc (Nat.le_refl _) _⟩
  · have h' : (s.size : Int) ≤ 64 := by omega
    rw [cut64_short (by omega)]
    go_enter Try.func143, Try.ntmps143
    go_wp2
    exact bodyPost_ret (v := V 2 0 s 0 0 0 0 0 0 0 0) (by simp [results, Try.results143, go_sem]) rfl ⟨rfl, (Below.refl _ _).alloc (Nat.le_refl _) _⟩
def b2i (b : Bool) : Int := if b then 1 else 0
set_option maxHeartbeats 400000 in
theorem ofBool_any {b : Bool} {w : World} :
    Calls Try.prog 144 #[.bool b] w fun e w' => e = .returned (V 3 (b2i b) ⟨#[]⟩ 0 0 0 0 0 0 0 0) ∧ Below w.heap.size w w' := by
  cases b
  · go_enter Try.func144, Try.ntmps144
    go_wp2
    exact bodyPost_ret (v := V 3 0 ⟨#[]⟩ 0 0 0 0 0 0 0 0) (by simp [results, Try.results144, go_sem]) rfl ⟨rfl, (Below.refl _ _).alloc (Nat.le_refl _) _⟩
  · go_enter Try.func144, Try.ntmps144
    go_wp2
    exact bodyPost_ret (v := V 3 1 ⟨#[]⟩ 0 0 0 0 0 0 0 0) (by simp [results, Try.results144, go_sem]) rfl ⟨rfl, (Below.refl _ _).alloc (Nat.le_refl _) _⟩
set_option maxHeartbeats 400000 in
theorem ofBuckets_any {a0 a1 a2 a3 a4 a5 a6 a7 : Int} {w : World} :
    Calls Try.prog 145 #[H8 a0 a1 a2 a3 a4 a5 a6 a7] w fun e w' => e = .returned (V 4 0 ⟨#[]⟩ a0 a1 a2 a3 a4 a5 a6 a7) ∧ Below w.heap.size w w' := by
  go_enter Try.func145, Try.ntmps145
  go_wp2
  exact bodyPost_ret (v := V 4 0 ⟨#[]⟩ a0 a1 a2 a3 a4 a5 a6 a7) (by simp [results, Try.results145, go_sem]) rfl ⟨rfl, ((Below.refl _ _).alloc (Nat.le_refl _) _).alloc (by simp) _⟩

end Go.Proofs.Ytcidijjbcebcbaa.TN
namespace Go.Proofs.Ytcidijjbcebcbaa.TN
open Go.RowKit

def zeroH (a0 a1 a2 a3 a4 a5 a6 a7 : Int) : Bool := eqH a0 a1 a2 a3 a4 a5 a6 a7 0 0 0 0 0 0 0 0
def noText : ByteArray := ⟨#[]⟩
def validB (k n : Int) (s : ByteArray) (a0 a1 a2 a3 a4 a5 a6 a7 : Int) : Bool :=
  if k = 1 then decide (s = noText) && zeroH a0 a1 a2 a3 a4 a5 a6 a7
  else if k = 2 then decide (n = 0) && (zeroH a0 a1 a2 a3 a4 a5 a6 a7 && decide (s.size ≤ 64))
  else if k = 3 then decide (n = 0 ∨ n = 1) && (decide (s = noText) && zeroH a0 a1 a2 a3 a4 a5 a6 a7)
  else if k = 4 then decide (n = 0) && decide (s = noText)
  else false

theorem cut64_eq_iff (s : ByteArray) : s = cut64 s ↔ s.size ≤ 64 := by
  constructor
  · intro h
    rw [h]; unfold cut64
    rw [ByteArray.size_extract]; omega
  · intro h; exact (cut64_short h).symm
theorem eqH_self (a0 a1 a2 a3 a4 a5 a6 a7 : Int) : eqH a0 a1 a2 a3 a4 a5 a6 a7 a0 a1 a2 a3 a4 a5 a6 a7 = true := by simp [eqH]

set_option maxHeartbeats 400000 in
theorem valid_1 (n : Int) (s : ByteArray) (a0 a1 a2 a3 a4 a5 a6 a7 : Int) (w : World) :
    Calls Try.prog 122 #[V 1 n s a0 a1 a2 a3 a4 a5 a6 a7] w fun e w' => e = .returned (.bool (eqV 1 n s a0 a1 a2 a3 a4 a5 a6 a7 1 n ⟨#[]⟩ 0 0 0 0 0 0 0 0)) ∧ Below w.heap.size w w' := by
  have he := @eql24
  go_enter Try.func122, Try.ntmps122
  go_wp2_with fail
  go_region_with (first | (go_at_call 142; refine ofInt_any.mono ?_; rintro e w' ⟨rfl, hb⟩; obtain ⟨hc, hf⟩ := bcell hb))
  all_goals
    go_wp2
    go_ret
    exact ⟨rfl, ((Below.refl _ _).alloc (Nat.le_refl _) _).drew.trans (hb.mono (by simp))⟩
set_option maxHeartbeats 400000 in
theorem valid_2 (n : Int) (s : ByteArray) (a0 a1 a2 a3 a4 a5 a6 a7 : Int) (w : World) :
    Calls Try.prog 122 #[V 2 n s a0 a1 a2 a3 a4 a5 a6 a7] w fun e w' => e = .returned (.bool (eqV 2 n s a0 a1 a2 a3 a4 a5 a6 a7 2 0 (cut64 s) 0 0 0 0 0 0 0 0)) ∧ Below w.heap.size w w' := by
  have he := @eql24
  go_enter Try.func122, Try.ntmps122
  go_wp2_with fail
  go_region_with (first | (go_at_call 143; refine ofStr_any.mono ?_; rintro e w' ⟨rfl, hb⟩; obtain ⟨hc, hf⟩ := bcell hb))
  all_goals
    go_wp2
    go_ret
    exact ⟨rfl, ((Below.refl _ _).alloc (Nat.le_refl _) _).drew.trans (hb.mono (by simp))⟩
set_option maxHeartbeats 400000 in
theorem valid_3 (n : Int) (s : ByteArray) (a0 a1 a2 a3 a4 a5 a6 a7 : Int) (w : World) :
    Calls Try.prog 122 #[V 3 n s a0 a1 a2 a3 a4 a5 a6 a7] w fun e w' => e = .returned (.bool (eqV 3 n s a0 a1 a2 a3 a4 a5 a6 a7 3 (b2i (n == 1)) ⟨#[]⟩ 0 0 0 0 0 0 0 0)) ∧ Below w.heap.size w w' := by
  have he := @eql24
  go_enter Try.func122, Try.ntmps122
  go_wp2_with fail
  go_region_with (first | (go_at_call 144; refine ofBool_any.mono ?_; rintro e w' ⟨rfl, hb⟩; obtain ⟨hc, hf⟩ := bcell hb))
  all_goals
    go_wp2
    go_ret
    exact ⟨rfl, ((Below.refl _ _).alloc (Nat.le_refl _) _).drew.trans (hb.mono (by simp))⟩
set_option maxHeartbeats 400000 in
theorem valid_4 (n : Int) (s : ByteArray) (a0 a1 a2 a3 a4 a5 a6 a7 : Int) (w : World) :
    Calls Try.prog 122 #[V 4 n s a0 a1 a2 a3 a4 a5 a6 a7] w fun e w' => e = .returned (.bool (eqV 4 n s a0 a1 a2 a3 a4 a5 a6 a7 4 0 ⟨#[]⟩ a0 a1 a2 a3 a4 a5 a6 a7)) ∧ Below w.heap.size w w' := by
  have he := @eql24
  go_enter Try.func122, Try.ntmps122
  go_wp2_with fail
  go_region_with (first | (go_at_call 145; refine ofBuckets_any.mono ?_; rintro e w' ⟨rfl, hb⟩; obtain ⟨hc, hf⟩ := bcell hb))
  all_goals
    go_wp2
    go_ret
    exact ⟨rfl, ((Below.refl _ _).alloc (Nat.le_refl _) _).drew.trans (hb.mono (by simp))⟩

set_option maxHeartbeats 400000 in
theorem valid_0 (k n : Int) (s : ByteArray) (a0 a1 a2 a3 a4 a5 a6 a7 : Int) (w : World) (h1 : (k == 1) = false) (h2 : (k == 2) = false) (h3 : (k == 3) = false) (h4 : (k == 4) = false) :
    Calls Try.prog 122 #[V k n s a0 a1 a2 a3 a4 a5 a6 a7] w fun e w' => e = .returned (.bool false) ∧ Below w.heap.size w w' := by
  go_enter Try.func122, Try.ntmps122
  go_wp2
  go_ret
  exact ⟨rfl, (Below.refl _ _).alloc (Nat.le_refl _) _⟩
theorem valid_any {k n : Int} {s : ByteArray} {a0 a1 a2 a3 a4 a5 a6 a7 : Int} {w : World} :
    Calls Try.prog 122 #[V k n s a0 a1 a2 a3 a4 a5 a6 a7] w fun e w' => e = .returned (.bool (validB k n s a0 a1 a2 a3 a4 a5 a6 a7)) ∧ Below w.heap.size w w' := by
  by_cases h1 : k = 1
  · subst h1
    have h : validB 1 n s a0 a1 a2 a3 a4 a5 a6 a7 = eqV 1 n s a0 a1 a2 a3 a4 a5 a6 a7 1 n ⟨#[]⟩ 0 0 0 0 0 0 0 0 := by
      by_cases hs : s = ⟨#[]⟩ <;> simp [validB, eqV, zeroH, noText, hs]
    rw [h]; exact valid_1 _ _ _ _ _ _ _ _ _ _ _
  · by_cases h2 : k = 2
    · subst h2
      have h : validB 2 n s a0 a1 a2 a3 a4 a5 a6 a7 = eqV 2 n s a0 a1 a2 a3 a4 a5 a6 a7 2 0 (cut64 s) 0 0 0 0 0 0 0 0 := by
        have := cut64_eq_iff s
        by_cases hs : s.size ≤ 64 <;> simp [validB, eqV, zeroH, this, hs]
      rw [h]; exact valid_2 _ _ _ _ _ _ _ _ _ _ _
    · by_cases h3 : k = 3
      · subst h3
        have h : validB 3 n s a0 a1 a2 a3 a4 a5 a6 a7 = eqV 3 n s a0 a1 a2 a3 a4 a5 a6 a7 3 (b2i (n == 1)) ⟨#[]⟩ 0 0 0 0 0 0 0 0 := by
          by_cases hs : s = ⟨#[]⟩
          · by_cases hn : n = 1
            · simp [validB, eqV, zeroH, noText, hn, hs, b2i]
            · simp [validB, eqV, zeroH, noText, hn, hs, b2i]
          · simp [validB, eqV, zeroH, noText, hs]
        rw [h]; exact valid_3 _ _ _ _ _ _ _ _ _ _ _
      · by_cases h4 : k = 4
        · subst h4
          have h : validB 4 n s a0 a1 a2 a3 a4 a5 a6 a7 = eqV 4 n s a0 a1 a2 a3 a4 a5 a6 a7 4 0 ⟨#[]⟩ a0 a1 a2 a3 a4 a5 a6 a7 := by
            by_cases hs : s = ⟨#[]⟩ <;> simp [validB, eqV, noText, eqH_self, hs]
          rw [h]; exact valid_4 _ _ _ _ _ _ _ _ _ _ _
        · have h : validB k n s a0 a1 a2 a3 a4 a5 a6 a7 = false := by simp [validB, h1, h2, h3, h4]
          rw [h]; exact valid_0 _ _ _ _ _ _ _ _ _ _ _ _ (by simpa using h1) (by simpa using h2) (by simpa using h3) (by simpa using h4)
end Go.Proofs.Ytcidijjbcebcbaa.TN
