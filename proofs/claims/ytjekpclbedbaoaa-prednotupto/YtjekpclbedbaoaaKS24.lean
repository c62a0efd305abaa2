/-
  The reference's Parse and Cond.
  The document's examples.
  A text as a condition; stage 15's examples.
  Two conditions put together as text: which rows hold them.
  A time laid down to a multiple of a width.
  slices.SortFunc of rows, as the kit's shelf has it.
  What Go's slices.SortFunc leaves of rows: canonical order.
-/
import Derived.Test.YtjekpclbedbaoaaProg
import Derived.Test.YtjekpclbedbaoaaKS05
import Derived.Test.YtjekpclbedbaoaaKS06
import Derived.Test.YtjekpclbedbaoaaKS07
import Derived.Test.YtjekpclbedbaoaaKS09
import Derived.Test.YtjekpclbedbaoaaKS14
import Derived.Test.YtjekpclbedbaoaaKS15
import Derived.Test.YtjekpclbedbaoaaKS16
import Derived.Test.YtjekpclbedbaoaaKS22
import Derived.Test.YtjekpclbedbaoaaKS23
import Derived.Shelf.SlSortCmp.NoneTotal
namespace Go.Proofs.Ytjekpclbedbaoaa
open Go.RowKit Go.Joins

theorem end_whole {ts : List Tp} {p : PN} {z E : Int} {ns : List Np} {j : Nat} (hl : ¬ 1024 < ts.length) (h : Cm2 (lf 0 0 (p 0 [])) z ns j E) : endS ts E j ns = wholeS ts p := by
  unfold lf at h; rw [if_pos rfl] at h
  unfold wholeS; rw [if_neg hl]
  rcases h with ⟨h, hE⟩ | ⟨a, rfl, h, rfl⟩
  · rw [h]; unfold endS; rw [if_neg hE]
  · rw [h]; unfold endS; rw [if_pos rfl]
section
variable {ts : List Tp} {w : World} {tv : Value}
theorem ry_start {w1 : World} (htok : SlAt (fun b => b < w1.heap.size) Tp.cells 4 w1 tv ts) (hl : ts.length ≤ 1024) : Ry w1.heap.size ts (w1.alloc (.cells #[tv, .int .i64 0, .slice none 0 0, .int .i64 0, .int .i64 0] 72)) w1.heap.size tv (.slice none 0 0) 0 0 0 [] :=
  ⟨Nat.le_refl _, alloc_block _ _, Own.nil _ _ _ _ _, fun q hq => by simp at hq, htok.on ((Below.refl _ _).alloc (Nat.le_refl _) _), Nat.zero_le _, hl, Nat.le_refl _, by omega⟩
set_option maxRecDepth 100000 in
set_option maxHeartbeats 2000000 in
theorem RCond_any (htok : SlAt (fun b => b < w.heap.size) Tp.cells 4 w tv ts) : Calls Try.prog 13 #[tv] w (WhP w (wholeS ts (condS ts 16))) := by
  have HB0 : Hid (Below w.heap.size w (w.alloc (.cells #[.slice none 0 0] 34))) := (Below.refl _ _).alloc (Nat.le_refl _) _
  have HZ := hid (alloc_block w (.cells #[.slice none 0 0] 34))
  have HTk := hid ((htok.on HB0.out).imp (Q' := fun b => b < (w.alloc (.cells #[.slice none 0 0] 34)).heap.size) (fun b hb => by simp; omega))
  generalize hW : w.alloc (.cells #[.slice none 0 0] 34) = w1 at *
  have HW := hid hW
  obtain ⟨p, cap, rfl, hc1, hc2⟩ := htok.form
  unfold maxLen at hc2
  clear htok hW
  by_cases hl : 1024 < ts.length
  · have lI : 1024 < (ts.length : Int) := by omega
    have HE : Hid (wholeS ts (condS ts 16) = ([], 0, 2)) := by show _ = _; unfold wholeS; rw [if_pos hl]
    have kz := block_cell HZ.out
    have fz := block_frozen HZ.out
    clear hl
    go_enter Try.func13, Try.ntmps13
    go_upto_region 1 with fail
    rw [HW.out]
    go_wp2_with fail
    have hX := q_box (v := .slice none 0 0) (w2 := w1) HZ.out HB0.out (Nq.nil _ _) (Below.refl _ _)
    have k9 := block_cell hX.1
    refine bodyPost_ret (v := .tuple #[.agg #[.slice none 0 0], .int .i64 0, .int .i64 2]) (by simp [results, Try.results13, go_sem, k9]) rfl ?_
    show WhP _ _ _ _
    rw [HE.out]
    exact ⟨_, rfl, hX.2.1, hX.2.2⟩
  · have lI : ¬ 1024 < (ts.length : Int) := by omega
    have HL := hid hl
    have HR := hid (ry_start HTk.out (by omega))
    clear hl
    go_enter Try.func13, Try.ntmps13
    go_upto_region 1 with fail
    rw [HW.out]
    go_wp2_with (first
      | (go_at_call 30; refine (rcondS 16 (Nat.le_refl _) _ _ _ _ _ (fun h17 => by omega) HR.out).mono ?_; rintro e w3 ⟨hk, z3, E3, j3, sv3, qs3, rfl, hz3, hq, ha, hc⟩; have HR3 := hid hq; have HC3 := hid hc; have HB3 := hid (((Below.refl w1.heap.size w1).alloc (Nat.le_refl _) (.cells #[.slice p ts.length cap, .int .i64 0, .slice none 0 0, .int .i64 0, .int .i64 0] 72)).trans (hk.below (by simp) (fun k ht => ht.elim (fun e => by omega) (fun e => by cases e)))); clear hk hq ha hc hz3)
      | (go_at_call 31; refine (rend_any HR3.out).mono ?_; rintro e w4 ⟨v4, rfl, hn, hk⟩; have HB4 := hid (HB3.out.trans (hk.below HB3.out.size (fun k e => by omega))); have HN4 := hid hn; have HX := hid (q_box HZ.out HB0.out hn (HB3.out.trans (hk.below HB3.out.size (fun k e => by omega)))); have kz := block_cell (block_on HZ.out HB4.out); have fz := block_frozen (block_on HZ.out HB4.out); obtain ⟨qs4, ho4, -⟩ := hn; obtain ⟨pv, cv, rfl⟩ := ho4.form; clear hk ho4))
    have k9 := block_cell HX.out.1
    refine bodyPost_ret (v := .tuple #[.agg #[.slice pv qs4.length cv], .int .i64 ((endS ts E3 j3 (qs3.map (·.np))).2.1 : Int), .int .i64 (endS ts E3 j3 (qs3.map (·.np))).2.2]) (by simp [results, Try.results13, go_sem, k9]) rfl ?_
    show WhP _ _ _ _
    rw [← end_whole HL.out HC3.out]
    exact ⟨_, rfl, HX.out.2.1, HX.out.2.2⟩
end
end Go.Proofs.Ytjekpclbedbaoaa
namespace Go.Proofs.Ytjekpclbedbaoaa
open Go.RowKit Go.Joins

def t1 : List UInt8 := [102, 101, 116, 99, 104, 32, 108, 111, 97, 100, 32, 124, 32, 119, 104, 101, 114, 101, 32, 104, 111, 115, 116, 32, 61, 32, 34, 97, 34, 32, 111, 114, 32, 110, 32, 62, 32, 53, 32, 97, 110, 100, 32, 117, 112, 32, 61, 32, 116, 114, 117, 101, 32, 124, 32, 116, 111, 112, 32, 51, 32, 98, 121, 32, 110]
def t2 : List UInt8 := [102, 101, 116, 99, 104, 32, 108, 111, 97, 100, 32, 124, 32, 106, 111, 105, 110, 32, 40, 102, 101, 116, 99, 104, 32, 108, 97, 116, 41, 32, 124, 32, 107, 101, 101, 112, 32, 104, 111, 115, 116]
def t3 : List UInt8 := [102, 101, 116, 99, 104, 32, 108, 111, 97, 100, 32, 124]
def t4 : List UInt8 := [102, 101, 116, 99, 104, 32, 108, 111, 97, 100, 32, 124, 32, 98, 121]
def t5 : List UInt8 := [102, 101, 116, 99, 104, 32, 53]
theorem q1_is : (queryO t1).2 = (0, 0) ∧ (queryO t1).1.map (·.l) = [[], [], [], [], [2, 3], [1, 4], [0, 5], [6]] ∧ (queryO t1).1.map (·.kind) = [1, 14, 14, 14, 11, 12, 2, 6] ∧ (queryO t1).1.map (·.n) = [0, 1, 5, 1, 0, 0, 0, 3] ∧ ((queryO t1).1.map (·.s))[7]? = some [110] := by decide +kernel
theorem q2_is : (queryO t2).2 = (0, 0) ∧ (queryO t2).1.map (·.l) = [[], [], [0, 1], [2]] := by decide +kernel
theorem q3_is : (queryO t3).2 = (12, 120) := by decide +kernel
theorem q4_is : (queryO t4).2 = (13, 120) := by decide +kernel
theorem q5_is : (queryO t5).2 = (6, 120) := by decide +kernel
/- A node of a row, with where it lies. -/
theorem Nq.len {n : Nat} {w : World} {v : Value} {ns : List Np} (h : Nq n w v ns) : ∃ p c, v = .slice p ns.length c ∧ ns.length ≤ c ∧ c ≤ maxLen := by
  obtain ⟨qs, h1, h2, h3⟩ := h
  obtain ⟨p, c, hv, hc, hm⟩ := (h1.sl nd_len).form
  exact ⟨p, c, by rw [hv, ← h3, List.length_map], by rw [← h3, List.length_map]; exact hc, hm⟩
/- The row's block and its nodes. -/
def Nr (n : Nat) (w : World) (g : Nat) (ns : List Np) : Prop := n ≤ g ∧ g < w.heap.size ∧ ∀ k x, ns[k]? = some x → ∃ q : Nd, q.np = x ∧ CellsAt w g (k * 19) q.cells ∧ NdIn n w q
theorem Nq.rows {n : Nat} {w : World} {v : Value} {ns : List Np} (h : Nq n w v ns) (hne : 0 < ns.length) : ∃ g c, v = .slice (some ⟨g, 0, none⟩) ns.length c ∧ ns.length ≤ c ∧ c ≤ maxLen ∧ Nr n w g ns := by
  obtain ⟨qs, h1, h2, h3⟩ := h
  have hl : qs.length = ns.length := by rw [← h3, List.length_map]
  rcases h1.2 with ⟨hv, h0⟩ | ⟨g, cap, cur, hv, hg, hblk, hc, hm, -⟩
  · omega
  · refine ⟨g, cap, by rw [hv, hl], by omega, hm, hg, lt_of_block hblk, fun k x hx => ?_⟩
    rw [← h3, List.getElem?_map] at hx
    cases hq : qs[k]? with
    | none => rw [hq] at hx; cases hx
    | some q =>
      rw [hq] at hx; cases hx
      refine ⟨q, rfl, ?_, h2 q (List.mem_of_getElem? hq)⟩
      have hs := h1.sl nd_len
      rw [hv] at hs
      obtain ⟨b, o, hp, _, hcell⟩ := hs.at hq
      cases hp
      simpa using hcell
theorem Nr.on {n : Nat} {w w' : World} {g : Nat} {ns : List Np} (h : Nr n w g ns) (hb : Below w.heap.size w w') : Nr n w' g ns :=
  ⟨h.1, Nat.lt_of_lt_of_le h.2.1 hb.size, fun k x hx => let ⟨q, h1, h2, h3⟩ := h.2.2 k x hx; ⟨q, h1, h2.kp (T := fun _ => False) (Kp.of hb) id, h3.on hb⟩⟩
theorem Nr.l {n : Nat} {w : World} {g : Nat} {ns : List Np} (h : Nr n w g ns) (k : Nat) {l : List Int} (hk : (ns.map (·.l))[k]? = some l) : ∃ lv, w.cell? ⟨g, k * 19 + 16, none⟩ = some lv ∧ Own int1 1 3 n w lv l := by
  rw [List.getElem?_map] at hk
  cases hx : ns[k]? with
  | none => rw [hx] at hk; cases hk
  | some x =>
    rw [hx] at hk; cases hk
    obtain ⟨q, rfl, h2, h3⟩ := h.2.2 k x hx
    exact ⟨q.lv, h2 16 _ rfl, h3.l⟩
theorem Nr.kind {n : Nat} {w : World} {g : Nat} {ns : List Np} (h : Nr n w g ns) (k : Nat) {x : Int} (hk : (ns.map (·.kind))[k]? = some x) : w.cell? ⟨g, k * 19, none⟩ = some (.int .i64 x) := by
  rw [List.getElem?_map] at hk
  cases hx : ns[k]? with
  | none => rw [hx] at hk; cases hk
  | some y =>
    rw [hx] at hk; cases hk
    obtain ⟨q, rfl, h2, h3⟩ := h.2.2 k y hx
    exact h2 0 _ rfl
theorem Nr.n {n : Nat} {w : World} {g : Nat} {ns : List Np} (h : Nr n w g ns) (k : Nat) {x : Int} (hk : (ns.map (·.n))[k]? = some x) : w.cell? ⟨g, k * 19 + 2, none⟩ = some (.int .i64 x) := by
  rw [List.getElem?_map] at hk
  cases hx : ns[k]? with
  | none => rw [hx] at hk; cases hk
  | some y =>
    rw [hx] at hk; cases hk
    obtain ⟨q, rfl, h2, h3⟩ := h.2.2 k y hx
    exact h2 2 _ rfl
theorem Nr.s {n : Nat} {w : World} {g : Nat} {ns : List Np} (h : Nr n w g ns) (k : Nat) {x : List UInt8} (hk : (ns.map (·.s))[k]? = some x) : w.cell? ⟨g, k * 19 + 1, none⟩ = some (.string (St x)) := by
  rw [List.getElem?_map] at hk
  cases hx : ns[k]? with
  | none => rw [hx] at hk; cases hk
  | some y =>
    rw [hx] at hk; cases hk
    obtain ⟨q, rfl, h2, h3⟩ := h.2.2 k y hx
    exact h2 1 _ rfl
theorem lit2 {W : World} (l : List Int) (hl : l.length ≤ 1000) {cs : Array Value} {n : Nat} (hc : cs = (l.flatMap int1).toArray) (hn : n = l.length) : SlAt (fun _ => True) int1 1 (W.alloc (.cells cs 3)) (.slice (some ⟨W.heap.size, 0, none⟩) n n) l := by
  subst hc
  subst hn
  exact ((own_ints W l hl (B := 0) (Nat.zero_le _)).sl (fun _ => rfl)).imp (fun _ _ => trivial)
/- What is read of the two answers. -/
structure Sw (w : World) (b1 b2 g1 g2 c1 c2 : Nat) : Prop where
  x1 : w.heap[b1]? = some (.cells #[.slice (some ⟨g1, 0, none⟩) 8 c1] 34 (0, 0))
  x2 : w.heap[b2]? = some (.cells #[.slice (some ⟨g2, 0, none⟩) 4 c2] 34 (0, 0))
  r1 : Nr 0 w g1 (queryO t1).1
  r2 : Nr 0 w g2 (queryO t2).1
theorem Sw.on {w w' : World} {b1 b2 g1 g2 c1 c2 : Nat} (h : Sw w b1 b2 g1 g2 c1 c2) (hb : Below w.heap.size w w') : Sw w' b1 b2 g1 g2 c1 c2 := ⟨block_on h.x1 hb, block_on h.x2 hb, h.r1.on hb, h.r2.on hb⟩
theorem at_of {ns : List Np} {ls : List (List Int)} (h : ns.map (·.l) = ls) {k : Nat} {l : List Int} (hk : ls[k]? = some l) : (ns.map (·.l))[k]? = some l := by rw [h]; exact hk
theorem len_of {ns : List Np} {ls : List (List Int)} (h : ns.map (·.l) = ls) : ns.length = ls.length := by rw [← h, List.length_map]
theorem Nr.le {n : Nat} {w : World} {g : Nat} {ns : List Np} (h : Nr n w g ns) : Nr 0 w g ns :=
  ⟨Nat.zero_le _, h.2.1, fun k x hx => let ⟨q, h1, h2, h3⟩ := h.2.2 k x hx; ⟨q, h1, h2, h3.le (Nat.zero_le _)⟩⟩
theorem St_eqL (l p : List UInt8) : ((St l).toList == p) = (l == p) := by
  rw [ByteArray.toList_eq, St_toList]
end Go.Proofs.Ytjekpclbedbaoaa
namespace Go.Proofs.Ytjekpclbedbaoaa.PD
open Go.RowKit Go.Joins

def cnodes (l : List UInt8) : List Np := (wholeS ((lexO l).1.map tp) (condS ((lexO l).1.map tp) 16)).1
def nx0 (n : Np) : Nx := ⟨n, 0, 0, 0, 0, 0, 0, 0, 0, .slice none 0 0, .slice none 0 0, .slice none 0 0⟩
def strip (q : Nx) : Nx := { q with lv := .slice none 0 0, nv := .slice none 0 0, gv := .slice none 0 0 }
theorem oksA_strip (cs : List TN.Cl) (row : TN.Rw) : ∀ (qs : List Nx) (acc : List Bool), oksA cs row (qs.map strip) acc = oksA cs row qs acc
  | [], _ => rfl
  | q :: r, acc => by
    show oksA cs row (r.map strip) (acc ++ [tst cs (strip q) acc.length acc row]) = oksA cs row r (acc ++ [tst cs q acc.length acc row])
    rw [show tst cs (strip q) acc.length acc row = tst cs q acc.length acc row from rfl, oksA_strip cs row r]
theorem holdsX_strip (cs : List TN.Cl) (qs : List Nx) (i : Int) (row : TN.Rw) : holdsX cs (qs.map strip) i row = holdsX cs qs i row := by
  unfold holdsX oks; rw [oksA_strip]
def ofNd (q : Nd) : Nx := ⟨q.np, 0, 0, 0, 0, 0, 0, 0, 0, q.lv, q.nv, q.gv⟩
theorem slAt_map {α β : Type} {Q : Nat → Prop} {enc : α → List Value} {enc' : β → List Value} {k : Nat} {w : World} {v : Value} {xs : List α} (f : α → β) (hf : ∀ x, enc' (f x) = enc x) (h : SlAt Q enc k w v xs) : SlAt Q enc' k w v (xs.map f) := by
  obtain ⟨p, cap, hv, hc, hx⟩ := h
  refine ⟨p, cap, by rw [List.length_map]; exact hv, by rw [List.length_map]; exact hc, fun hne => ?_⟩
  obtain ⟨b, o, hp, hQ, hj⟩ := hx (by intro e; subst e; exact hne rfl)
  refine ⟨b, o, hp, hQ, fun j y hy => ?_⟩
  rw [List.getElem?_map] at hy
  cases e : xs[j]? with
  | none => rw [e] at hy; cases hy
  | some x => rw [e] at hy; cases hy; rw [hf]; exact hj j x e
/- What was read, as nodes that may be handed in. -/
theorem nq_qx {n : Nat} {w : World} {v : Value} {ns : List Np} (h : Nq n w v ns) : ∃ qs, Qx (fun b => b < w.heap.size) w v qs ∧ qs.map strip = ns.map nx0 ∧ qs.length = ns.length := by
  obtain ⟨ds, ho, he, hm⟩ := h
  refine ⟨ds.map ofNd, ⟨slAt_map ofNd (fun _ => rfl) ((ho.sl nd_len).imp (fun b hb => hb.2)), fun q hq => ?_⟩, ?_, by rw [List.length_map, ← hm, List.length_map]⟩
  · obtain ⟨d, hd, rfl⟩ := List.mem_map.1 hq
    have := he d hd
    exact ⟨(this.l.sl (fun _ => rfl)).imp (fun b hb => hb.2), (this.n.sl (fun _ => rfl)).imp (fun b hb => hb.2), (this.g.sl (fun _ => rfl)).imp (fun b hb => hb.2)⟩
  · rw [← hm, List.map_map, List.map_map]; rfl
def CoP (l : List UInt8) (w : World) (e : Ending) (w' : World) : Prop := ∃ v, e = .returned (.agg #[v]) ∧ Nq w.heap.size w' v (cnodes l) ∧ Below w.heap.size w w'
set_option maxRecDepth 100000 in
set_option maxHeartbeats 1000000 in
theorem cond5_any (l : List UInt8) (hl : (l.length : Int) ≤ 140737488355328) (w : World) : Calls Try.prog 47 #[.string (St l)] w (CoP l w) := by
  have HL := hid (fun w => rlex_any l hl w)
  have HK : Hid (∀ (w : World) (tv : Value), SlAt (fun b => b < w.heap.size) Tp.cells 4 w tv ((lexO l).1.map tp) → Calls Try.prog 13 #[tv] w (WhP w (wholeS ((lexO l).1.map tp) (condS ((lexO l).1.map tp) 16)))) := fun w tv h => RCond_any h
  have hb0 : Below w.heap.size w (w.alloc (.cells #[.slice none 0 0] 34)) := (Below.refl _ _).alloc (Nat.le_refl _) _
  have hz := alloc_block w (.cells #[Value.slice none 0 0] 34)
  have HB0 := hid hb0
  have HZ := hid hz
  have HCn : Hid (cnodes l = (wholeS ((lexO l).1.map tp) (condS ((lexO l).1.map tp) 16)).1) := rfl
  generalize wholeS ((lexO l).1.map tp) (condS ((lexO l).1.map tp) 16) = R at *
  unfold LexP at HL
  generalize (lexO l) = X at *
  obtain ⟨ns, pa, ea⟩ := R
  obtain ⟨us, xa, xe⟩ := X
  clear hb0 hz
  have hlt := lt_of_block HZ.out
  go_enter Try.func47, Try.ntmps47
  go_upto_region 1 with fail
  generalize w.alloc (.cells #[.slice none 0 0] 34) = W at *
  go_upto_region 3 with (first
    | (go_at_call 12; refine (HL.out _).mono ?_; rintro e w4 ⟨tv, rfl, htr, hb⟩; have HB4 := hid hb; have HT4 := hid htr.sl; clear htr hb)
    | (go_at_call 13; refine (HK.out _ _ HT4.out).mono ?_; rintro e w5 ⟨vs, rfl, hns, hb⟩; obtain ⟨p5, c5, rfl, -, -⟩ := hns.len; have HN5 := hid hns; have HB5 := hid (HB4.out.trans (hb.mono HB4.out.size)); have HS4 := hid HB4.out.size; clear hns hb))
  have hb6 : Below w5.heap.size w5 (w5.alloc (.cells #[.slice p5 ns.length c5] 34)) := (Below.refl _ _).alloc (Nat.le_refl _) _
  have hq6 := alloc_block w5 (.cells #[.slice p5 ns.length c5] 34)
  have hz6 := block_on (block_on HZ.out HB5.out) hb6
  have HN6 := hid (HN5.out.on hb6)
  have HB6 := hid (HB0.out.trans ((HB5.out.trans (hb6.mono HB5.out.size)).mono HB0.out.size))
  have y1 : (w5.alloc (.cells #[.slice p5 ns.length c5] 34)).cell? ⟨w5.heap.size, 0, none⟩ = some (.slice p5 ns.length c5) := block_cell hq6 0
  have y2 : (w5.alloc (.cells #[.slice p5 ns.length c5] 34)).cell? ⟨w.heap.size, 0, none⟩ = some (.slice none 0 0) := block_cell hz6 0
  have y3 := block_frozen hz6 0
  have HZ6 := hid hz6
  have hs5 := HB5.out.size
  have hs0 := HB0.out.size
  have hs4 := HS4.out
  clear hq6 hz6 hb6
  generalize w5.alloc (.cells #[.slice p5 ns.length c5] 34) = w6 at *
  go_wp2_with fail
  have KF := block_set HZ6.out 0 (.slice p5 ns.length c5)
  have hkf : Kp (fun b => b = w.heap.size) w6 (w6.setCell ⟨w.heap.size, 0, none⟩ (.slice p5 ns.length c5)) := Kp.set (T := fun b => b = w.heap.size) rfl _
  have hNf := HN6.out.kp hkf (fun b e => by omega)
  have hBf : Below w.heap.size w (w6.setCell ⟨w.heap.size, 0, none⟩ (.slice p5 ns.length c5)) := HB6.out.trans (hkf.below HB6.out.size (fun b e => by omega))
  generalize w6.setCell ⟨w.heap.size, 0, none⟩ (.slice p5 ns.length c5) = WF at *
  refine bodyPost_ret (v := .agg #[.slice p5 ns.length c5]) ?_ rfl ⟨_, rfl, by rw [HCn.out]; exact hNf.le (by omega), hBf⟩
  have kcf := block_cell KF
  clear KF
  simp [results, Try.results47, go_sem, kcf]
end Go.Proofs.Ytjekpclbedbaoaa.PD
namespace Go.Proofs.Ytjekpclbedbaoaa.PD
open Go.RowKit Go.Joins Go.Proofs.Ytjekpclbedbaoaa.BS

def tvX (cs : List TN.Cl) (row : TN.Rw) (ns : List Np) (a : Nat) : Bool := hsAt (oks cs row (ns.map nx0)) (a : Int)
theorem hsAt_pre {a b : List Bool} {k : Int} (h : k.toNat < a.length) : hsAt (a ++ b) k = hsAt a k := by
  unfold hsAt
  rw [List.getD_eq_getElem?_getD, List.getD_eq_getElem?_getD, List.getElem?_append_left h]
theorem hsAt_last {a : List Bool} {x : Bool} {k : Nat} (h : k = a.length) : hsAt (a ++ [x]) (k : Int) = x := by
  subst h
  unfold hsAt
  rw [List.getD_eq_getElem?_getD, List.getElem?_append_right (by simp)]
  simp
theorem tv_last (cs : List TN.Cl) (row : TN.Rw) (ns : List Np) (n : Np) : tvX cs row (ns ++ [n]) ns.length = tst cs (nx0 n) ns.length (oks cs row (ns.map nx0)) row := by
  unfold tvX
  rw [List.map_append, List.map_cons, List.map_nil, oks_snoc, hsAt_last (by rw [oks_len, List.length_map]), List.length_map]
theorem jd (cs : List TN.Cl) (row : TN.Rw) : Jd (tvX cs row) where
  ext ns m a h := by
    unfold tvX oks
    rw [List.map_append, oksA_app]
    have hl := oksA_len cs row (ns.map nx0) []
    unfold hsAt
    rw [List.getD_eq_getElem?_getD, List.getD_eq_getElem?_getD, oksA_pre cs row _ _ _ (by simp at hl ⊢; omega)]
  nt ns a h := by
    rw [tv_last]
    unfold tst
    have hb : bel (nx0 { n0 with kind := 13, l := [(a : Int)] }) ns.length = [(a : Int)] := by
      unfold bel how1 nx0
      rw [if_pos]
      refine ⟨rfl, ?_⟩
      simp [ahead]
      omega
    rw [hb]
    rfl
  two ns a b k hk ha hb := by
    rw [tv_last]
    unfold tst
    have hbl : bel (nx0 { n0 with kind := k, l := [(a : Int), (b : Int)] }) ns.length = [(a : Int), (b : Int)] := by
      unfold bel how1 nx0
      rw [if_pos]
      refine ⟨?_, ?_⟩
      · rcases hk with h | h <;> subst h <;> rfl
      · simp [ahead]
        omega
    rw [hbl]
    rcases hk with h | h <;> subst h <;> rfl
  lf ns n hk := by
    rw [tv_last]
    have e := tv_last cs row [] n
    rw [List.nil_append, List.length_nil] at e
    rw [e]
    unfold tst
    rcases hk with h | h
    · rw [if_pos (show (nx0 n).np.kind = 14 from h), if_pos (show (nx0 n).np.kind = 14 from h)]
    · rw [if_neg (show ¬ (nx0 n).np.kind = 14 by rw [show (nx0 n).np.kind = 15 from h]; decide), if_neg (show ¬ (nx0 n).np.kind = 14 by rw [show (nx0 n).np.kind = 15 from h]; decide), if_pos (show (nx0 n).np.kind = 15 from h), if_pos (show (nx0 n).np.kind = 15 from h)]
theorem holdsX_tv {cs : List TN.Cl} {row : TN.Rw} {qs : List Nx} {ns : List Np} (hs : qs.map strip = ns.map nx0) (hl : 0 < ns.length) : holdsX cs qs ((ns.length : Int) - 1) row = tvX cs row ns (ns.length - 1) := by
  rw [← holdsX_strip, hs]
  unfold holdsX tvX
  rw [decide_eq_true (by omega), Bool.true_and, show (ns.length : Int) - 1 = ((ns.length - 1 : Nat) : Int) by omega]
/- What a text that is a condition comes to. -/
abbrev cnd (l : List UInt8) : List Np × Nat × Int := wholeS ((lexO l).1.map tp) (condS ((lexO l).1.map tp) 16)
theorem lexO_e {l : List UInt8} (h : (lexO l).2.2 = 0) : lexA 0 l = .inr (lexO l).1 := by
  cases e : lexO l with
  | mk ts r =>
    obtain ⟨a, c⟩ := r
    rw [e] at h
    simp only at h
    subst h
    exact lexO_inr e
theorem cnd_side {cs : List TN.Cl} {row : TN.Rw} {s u t : List UInt8} (hs2 : (cnd s).2.2 = 0) (hu2 : (cnd u).2.2 = 0) (ht2 : (cnd t).2.2 = 0) (F : Bool → Bool → Bool)
    (hF : ∀ (b c : Bool), Ok1 (tvX cs row) (condS ((lexO s).1.map tp) 16) 0 (lexO s).1.length b → Ok1 (tvX cs row) (condS ((lexO u).1.map tp) 16) 0 (lexO u).1.length c → Val (tvX cs row) (condS ((lexO t).1.map tp) 16) 0 (F b c) (lexO t).1.length) :
    tvX cs row (cnd t).1 ((cnd t).1.length - 1) = F (tvX cs row (cnd s).1 ((cnd s).1.length - 1)) (tvX cs row (cnd u).1 ((cnd u).1.length - 1)) := by
  have hJ := jd cs row
  obtain ⟨b, hb⟩ := alone_ok hJ hs2
  obtain ⟨c, hc⟩ := alone_ok hJ hu2
  have vb : Val (tvX cs row) (condS ((lexO s).1.map tp) 16) 0 b (lexO s).1.length := fun ns r j e => by
    obtain ⟨r', e1, e2⟩ := hb ns
    rw [e] at e1; cases e1; exact ⟨rfl, e2⟩
  have vc : Val (tvX cs row) (condS ((lexO u).1.map tp) 16) 0 c (lexO u).1.length := fun ns r j e => by
    obtain ⟨r', e1, e2⟩ := hc ns
    rw [e] at e1; cases e1; exact ⟨rfl, e2⟩
  rw [(cond_val hs2 vb).1, (cond_val hu2 vc).1]
  exact (cond_val ht2 (hF b c hb hc)).1
theorem cnd_pos {l : List UInt8} (h : (cnd l).2.2 = 0) : 0 < (cnd l).1.length := by
  obtain ⟨r, j, e1, e2, e3⟩ := whole_ok (fun i c h => cond_bd _ 16 0 [] i c h) h
  obtain ⟨new, a1, -, a2⟩ := cond_t _ 16 _ _ _ _ e1
  rw [e3]; omega
/- The sides may change places. -/
theorem sides_same {cs : List TN.Cl} {row : TN.Rw} {s u o : List UInt8} (ho : o = [41, 32, 97, 110, 100, 32] ∨ o = [41, 32, 111, 114, 32]) (hs1 : (lexO s).2.2 = 0) (hs2 : (cnd s).2.2 = 0) (hu1 : (lexO u).2.2 = 0) (hu2 : (cnd u).2.2 = 0)
    (ha1 : (lexO (sideT o s u)).2.2 = 0) (ha2 : (cnd (sideT o s u)).2.2 = 0) (hb1 : (lexO (sideT o u s)).2.2 = 0) (hb2 : (cnd (sideT o u s)).2.2 = 0) :
    tvX cs row (cnd (sideT o s u)).1 ((cnd (sideT o s u)).1.length - 1) = tvX cs row (cnd (sideT o u s)).1 ((cnd (sideT o u s)).1.length - 1) := by
  have hJ := jd cs row
  have ls := Lx.of (lexO_e hs1)
  have lu := Lx.of (lexO_e hu1)
  rcases ho with h | h
  · subst h
    rw [cnd_side hs2 hu2 ha2 (fun b c => b && c) (fun b c h1 h2 => by have := side_val hJ h1 h2 (.inl rfl) ((side_lx ls lu).1.is (lexO_e ha1)); rwa [if_pos rfl] at this),
      cnd_side hu2 hs2 hb2 (fun b c => b && c) (fun b c h1 h2 => by have := side_val hJ h1 h2 (.inl rfl) ((side_lx lu ls).1.is (lexO_e hb1)); rwa [if_pos rfl] at this), Bool.and_comm]
  · subst h
    rw [cnd_side hs2 hu2 ha2 (fun b c => b || c) (fun b c h1 h2 => by have := side_val hJ h1 h2 (.inr rfl) ((side_lx ls lu).2.is (lexO_e ha1)); rwa [if_neg (by decide)] at this),
      cnd_side hu2 hs2 hb2 (fun b c => b || c) (fun b c h1 h2 => by have := side_val hJ h1 h2 (.inr rfl) ((side_lx lu ls).2.is (lexO_e hb1)); rwa [if_neg (by decide)] at this), Bool.or_comm]
theorem mor_same {cs : List TN.Cl} {row : TN.Rw} {s u : List UInt8} (hs1 : (lexO s).2.2 = 0) (hs2 : (cnd s).2.2 = 0) (hu1 : (lexO u).2.2 = 0) (hu2 : (cnd u).2.2 = 0)
    (ha1 : (lexO (morA s u)).2.2 = 0) (ha2 : (cnd (morA s u)).2.2 = 0) (hb1 : (lexO (morB s u)).2.2 = 0) (hb2 : (cnd (morB s u)).2.2 = 0) :
    tvX cs row (cnd (morA s u)).1 ((cnd (morA s u)).1.length - 1) = tvX cs row (cnd (morB s u)).1 ((cnd (morB s u)).1.length - 1) := by
  have hJ := jd cs row
  have ls := Lx.of (lexO_e hs1)
  have lu := Lx.of (lexO_e hu1)
  rw [cnd_side hs2 hu2 ha2 (fun b c => !b || !c) (fun b c h1 h2 => morA_val hJ h1 h2 ((morA_lx ls lu).is (lexO_e ha1))),
    cnd_side hs2 hu2 hb2 (fun b c => !b || !c) (fun b c h1 h2 => morB_val hJ h1 h2 ((morB_lx ls lu).is (lexO_e hb1)))]
theorem filter_tv {cs : List TN.Cl} {rs : List TN.Rw} {qa qb : List Nx} {na nb : List Np} (ha : qa.map strip = na.map nx0) (hb : qb.map strip = nb.map nx0) (la : 0 < na.length) (lb : 0 < nb.length) (h : ∀ row, tvX cs row na (na.length - 1) = tvX cs row nb (nb.length - 1)) : rs.filter (holdsX cs qa ((na.length : Int) - 1)) = rs.filter (holdsX cs qb ((nb.length : Int) - 1)) := by
  congr 1
  funext row
  rw [holdsX_tv ha la, holdsX_tv hb lb, h row]
end Go.Proofs.Ytjekpclbedbaoaa.PD
namespace Go.Proofs.Ytjekpclbedbaoaa.RO
open Go.RowKit Go.Joins

/- The greatest multiple of w that is not above n; n, where that lies below all numbers. -/
def mulW (n w : Int) : Int := if n < -9223372036854775808 + n % w then n else n - n % w
def InI (n : Int) : Prop := -9223372036854775808 ≤ n ∧ n ≤ 9223372036854775807
theorem tmod_or {n w : Int} (hw : 1 ≤ w) : n.tmod w = n % w ∨ (n.tmod w = n % w - w ∧ ¬ n % w = 0) := by
  have h5 := Int.tmod_eq_emod (a := n) (b := w)
  by_cases h : 0 ≤ n ∨ w ∣ n
  · rw [if_pos h] at h5; left; omega
  · rw [if_neg h] at h5
    right
    refine ⟨by omega, fun e => h (Or.inr (Int.dvd_of_emod_eq_zero e))⟩
theorem tmod_neg {n w : Int} (hw : 1 ≤ w) (h : n.tmod w < 0) : n % w = n.tmod w + w := by
  have h1 := Int.emod_nonneg n (show w ≠ 0 by omega)
  have h2 := tmod_or (n := n) hw
  omega
theorem tmod_pos {n w : Int} (hw : 1 ≤ w) (h : ¬ n.tmod w < 0) : n % w = n.tmod w := by
  have h1 := Int.emod_lt_of_pos n (show 0 < w by omega)
  have h2 := tmod_or (n := n) hw
  omega
theorem tmod_in {n w : Int} (hw : 1 ≤ w) : - w < n.tmod w ∧ n.tmod w < w := by
  have h1 := Int.emod_nonneg n (show w ≠ 0 by omega)
  have h3 := Int.emod_lt_of_pos n (show 0 < w by omega)
  have h2 := tmod_or (n := n) hw
  omega
end Go.Proofs.Ytjekpclbedbaoaa.RO
namespace Go.Proofs
open Go.Shelf
def Try.sortL_ren : Go.Shelf.Ren := ⟨fun | 6 => 90 | 15 => 111 | 14 => 110 | 28 => 128 | 29 => 129 | 20 => 120 | 21 => 121 | 22 => 122 | 23 => 123 | 24 => 124 | 25 => 125 | 26 => 126 | 27 => 127 | 46 => 136 | 47 => 137 | 48 => 138 | 49 => 139 | 50 => 140 | 57 => 143 | n => n, fun | 22 => 23 | 24 => 48 | 25 => 61 | 3 => 3 | 39 => 140 | 0 => 0 | 53 => 154 | 55 => 156 | 4 => 4 | 46 => 148 | 45 => 147 | 50 => 98 | 5 => 5 | 9 => 9 | 66 => 158 | 70 => 162 | 76 => 166 | 77 => 167 | n => n, fun | n => n⟩
theorem Try.sortL : Go.Proofs.SlLaysF.n6 Try.prog Try.sortL_ren := {
  mixed := by kernel_rfl
  f6 := ⟨Try.f90.name, by decide, Try.func90.trans (congrArg some (by kernel_rfl))⟩
  f14 := ⟨Try.f110.name, by decide, Try.func110.trans (congrArg some (by kernel_rfl))⟩
  f15 := Try.func111.trans (congrArg some (by kernel_rfl))
  f20 := ⟨Try.f120.name, by decide, Try.func120.trans (congrArg some (by kernel_rfl))⟩
  f21 := ⟨Try.f121.name, by decide, Try.func121.trans (congrArg some (by kernel_rfl))⟩
  f22 := ⟨Try.f122.name, by decide, Try.func122.trans (congrArg some (by kernel_rfl))⟩
  f23 := ⟨Try.f123.name, by decide, Try.func123.trans (congrArg some (by kernel_rfl))⟩
  f24 := ⟨Try.f124.name, by decide, Try.func124.trans (congrArg some (by kernel_rfl))⟩
  f25 := ⟨Try.f125.name, by decide, Try.func125.trans (congrArg some (by kernel_rfl))⟩
  f26 := ⟨Try.f126.name, by decide, Try.func126.trans (congrArg some (by kernel_rfl))⟩
  f27 := ⟨Try.f127.name, by decide, Try.func127.trans (congrArg some (by kernel_rfl))⟩
  f28 := Try.func128.trans (congrArg some (by kernel_rfl))
  f29 := Try.func129.trans (congrArg some (by kernel_rfl))
  f46 := ⟨Try.f136.name, by decide, Try.func136.trans (congrArg some (by kernel_rfl))⟩
  f47 := Try.func137.trans (congrArg some (by kernel_rfl))
  f48 := Try.func138.trans (congrArg some (by kernel_rfl))
  f49 := ⟨Try.f139.name, by decide, Try.func139.trans (congrArg some (by kernel_rfl))⟩
  f50 := ⟨Try.f140.name, by decide, Try.func140.trans (congrArg some (by kernel_rfl))⟩
  f57 := ⟨Try.f143.name, by decide, Try.func143.trans (congrArg some (by kernel_rfl))⟩
  t0 := Try.underlying0
  a0 := Try.isAgg0
  z0 := Try.sizeOf0
  v0 := Try.zeroValue0
  t3 := Try.underlying3
  a3 := Try.isAgg3
  z3 := Try.sizeOf3
  v3 := Try.zeroValue3
  t4 := Try.underlying4
  a4 := Try.isAgg4
  z4 := Try.sizeOf4
  v4 := Try.zeroValue4
  t5 := Try.underlying5
  a5 := Try.isAgg5
  z5 := Try.sizeOf5
  v5 := Try.zeroValue5
  t9 := Try.underlying9
  a9 := Try.isAgg9
  z9 := Try.sizeOf9
  v9 := Try.zeroValue9
  t22 := Try.underlying23
  a22 := Try.isAgg23
  z22 := Try.sizeOf23
  v22 := Try.zeroValue23
  a24 := Try.isAgg48
  z24 := Try.sizeOf48
  t25 := Try.underlying61
  a25 := Try.isAgg61
  z25 := Try.sizeOf61
  v25 := Try.zeroValue61
  t39 := Try.underlying140
  a39 := Try.isAgg140
  z39 := Try.sizeOf140
  v39 := Try.zeroValue140
  t45 := Try.underlying147
  a45 := Try.isAgg147
  z45 := Try.sizeOf147
  v45 := Try.zeroValue147
  t46 := Try.underlying148
  a46 := Try.isAgg148
  z46 := Try.sizeOf148
  v46 := Try.zeroValue148
  t50 := Try.underlying98
  a50 := Try.isAgg98
  z50 := Try.sizeOf98
  v50 := Try.zeroValue98
  t53 := Try.underlying154
  a53 := Try.isAgg154
  z53 := Try.sizeOf154
  v53 := Try.zeroValue154
  t55 := Try.underlying156
  a55 := Try.isAgg156
  z55 := Try.sizeOf156
  v55 := Try.zeroValue156
  t66 := Try.underlying158
  a66 := Try.isAgg158
  z66 := Try.sizeOf158
  v66 := Try.zeroValue158
  t70 := Try.underlying162
  a70 := Try.isAgg162
  z70 := Try.sizeOf162
  v70 := Try.zeroValue162
  t76 := Try.underlying166
  a76 := Try.isAgg166
  z76 := Try.sizeOf166
  v76 := Try.zeroValue166
  t77 := Try.underlying167
  a77 := Try.isAgg167
  z77 := Try.sizeOf167
  v77 := Try.zeroValue167 }
end Go.Proofs
namespace Go.Proofs.Ytjekpclbedbaoaa.TN
open Go.RowKit Go.Sort Go.Shelf

theorem slice_one {Q : Nat → Prop} {w : World} {h : Value} {r : Rw} (hr : RowIn Q w h r) : h.oneCell' = true := by
  obtain ⟨p, cap, rfl, _⟩ := hr; rfl
def encH (hs : List Value) (i : Nat) : Value := hs.getD i (.slice none 0 0)
def datR (ds : List Rw) (i : Nat) : Rw := ds.getD i []
def cfR (ds : List Rw) (i j : Nat) : Int := cmpR (datR ds i) (datR ds j)
theorem heads_get {Q : Nat → Prop} {w : World} {hs : List Value} {ds : List Rw} (h : HeadsIn Q w hs ds) (i : Nat) : RowIn Q w (encH hs i) (datR ds i) := by
  unfold encH datR
  by_cases hi : i < hs.length
  · have hi' : i < ds.length := by rw [← h.1]; exact hi
    rw [List.getD_eq_getElem?_getD, List.getD_eq_getElem?_getD, List.getElem?_eq_getElem hi, List.getElem?_eq_getElem hi']
    exact h.2 i _ _ (List.getElem?_eq_getElem hi) (List.getElem?_eq_getElem hi')
  · have hi' : ¬ i < ds.length := by rw [← h.1]; exact hi
    rw [List.getD_eq_getElem?_getD, List.getD_eq_getElem?_getD, List.getElem?_eq_none (by omega), List.getElem?_eq_none (by omega)]
    exact SlAt.nil _ _ _ _
theorem lt_true {ds : List Rw} {x y : Nat} : ltOf (cfR ds) x y = true ↔ cmpR (datR ds x) (datR ds y) < 0 := ⟨fun h => of_decide_eq_true h, fun h => decide_eq_true h⟩
theorem lt_false {ds : List Rw} {x y : Nat} : ltOf (cfR ds) x y = false ↔ ¬ cmpR (datR ds x) (datR ds y) < 0 := ⟨fun h => of_decide_eq_false h, fun h => decide_eq_false h⟩
theorem swoR (ds : List Rw) : SWO (ltOf (cfR ds)) where
  irrefl x := by rw [lt_false, (cmpR_zero _ _).2 rfl]; omega
  trans x y z h1 h2 := by
    rw [lt_true] at *
    obtain ⟨a, b, c, d, e, f, g⟩ := tri_cmpR (datR ds x) (datR ds y) (datR ds z)
    omega
  ntrans x y z h1 h2 := by
    rw [lt_false] at *
    obtain ⟨a, b, c, d, e, f, g⟩ := tri_cmpR (datR ds x) (datR ds y) (datR ds z)
    omega
theorem grow_of_grew {w w' : World} (h : Grew w w') : ∃ q os, w' = grow (w.drewN q) os := by
  obtain ⟨⟨d, os⟩, hw⟩ := regrown_of_below h.below
  have hd := h.drawn
  subst hw
  refine ⟨d - w.drawn, os, ?_⟩
  have e : w.drawn + (d - w.drawn) = d := by
    have : w.drawn ≤ d := hd
    omega
  show grow (redrawn w d) os = grow { w with drawn := w.drawn + (d - w.drawn) } os
  rw [e]; rfl
theorem cell_sortWorld {enc : Nat → Value} {w : World} {blk off m : Nat} {dk : Array Nat} {os : Array Obj} {a : Addr} {v : Value} (hne : a.block ≠ blk) (h : w.cell? a = some v) : (sortWorld enc w blk off m dk os).cell? a = some v := by
  unfold sortWorld
  rw [cell?_grow _ _ _ (by rw [size_putRow]; exact block_lt_of_cell h), cell?_putRow_other _ _ _ _ _ _ (Or.inl hne), cell?_ahead]
  exact h
theorem row_sortWorld {Q : Nat → Prop} {enc : Nat → Value} {w : World} {blk off m : Nat} {dk : Array Nat} {os : Array Obj} {v : Value} {r : Rw} (hq : ∀ b, Q b → b ≠ blk) (h : RowIn Q w v r) : RowIn Q (sortWorld enc w blk off m dk os) v r := by
  obtain ⟨p, cap, hv, hc, hm, hx⟩ := h
  exact ⟨p, cap, hv, hc, hm, fun hne => let ⟨b, o, hp, hQ, hj⟩ := hx hne; ⟨b, o, hp, hQ, fun j x hjx i u hu => cell_sortWorld (hq b hQ.1) (hj j x hjx i u hu)⟩⟩
theorem below_sortWorld {enc : Nat → Value} {w : World} {blk off m base : Nat} {dk : Array Nat} {os : Array Obj} (hb : base ≤ blk) (hl : base ≤ w.heap.size) : Below base w (sortWorld enc w blk off m dk os) := by
  refine ⟨rfl, rfl, rfl, ?_, fun k hk => ?_⟩
  · unfold sortWorld; rw [size_grow, size_putRow]; exact Nat.le_add_right _ _
  · unfold sortWorld
    rw [heap_grow_old _ _ (by rw [size_putRow]; show k < w.heap.size; omega)]
    show (w.heap.modify blk _)[k]? = _
    rw [Array.getElem?_modify, if_neg (by omega)]
theorem sort_any {Q : Nat → Prop} {hs : List Value} {ds : List Rw} {B n cap base : Nat} {w : World} (hblk : w.heap[B]? = some (.cells hs.toArray 48 (0, 0))) (hq : ∀ b, Q b → b ≠ B) (hh : HeadsIn Q w hs ds) (hn : hs.length = n) (hsz : n * 24 ≤ 140737488355328) (hcap : n ≤ cap) (hbase : base ≤ B) :
    Calls Try.prog 90 #[.slice (some ⟨B, 0, none⟩) n cap, .func (.func 91) #[] #[]] w fun e w' => e = .returned (.tuple #[]) ∧ (∃ hs', SlAt (fun b => b = B) one 1 w' (.slice (some ⟨B, 0, none⟩) n cap) hs' ∧ HeadsIn Q w' hs' (sortR ds)) ∧ Below base w w' := by
  have hB : B < w.heap.size := lt_of_block hblk
  have eg : ∀ args w, (callFunc 91 args).run Try.prog w = .ok (.enter 91 args) w := enters_of Try.func91 (by kernel_rfl) rfl
  have h1 : OneCell (encH hs) := fun i => slice_one (heads_get hh i)
  have hcmp : ∀ size, CmpLays1 Try.prog 91 #[] (encH hs) (cfR ds) B 0 size w := fun size m os dk _ x y =>
    (compareRows_any (row_sortWorld hq (heads_get hh x)).at (row_sortWorld hq (heads_get hh y)).at).mono fun e w' ⟨he, hg⟩ => ⟨he, grow_of_grew hg⟩
  have hsize : (Array.range n).size = n := Array.size_range
  have hget : ∀ j, j < n → (Array.range n)[j]! = j := fun j hj => by rw [getElem!_pos _ j (by rw [hsize]; exact hj)]; simp
  have hH : Holds (encH hs) w B 0 (Array.range n) := fun j hj => by
    rw [hsize] at hj
    rw [hget j hj, Nat.zero_add]
    refine ⟨?_, by simp [World.frozen?, hblk]⟩
    rw [block_cell hblk]
    unfold encH
    rw [List.getD_eq_getElem?_getD, List.getElem?_toArray, List.getElem?_eq_getElem (by omega)]; rfl
  have hS := Any.slices_SortFunc Try.sortL (encH hs) h1 (cfR ds) (swoR ds) 91 #[] B 0 cap (Array.range n) w eg (hcmp _) hH hB (by rw [hsize]; omega)
  rw [hsize] at hS
  refine Calls.mono (show Calls Try.prog 90 _ _ _ from hS) ?_
  rintro e w' ⟨he, d', m, os, hp, hso, rfl⟩
  obtain ⟨hs1, _, hp1⟩ := hp
  rw [hsize] at hs1
  have e1 : d'.extract 0 n = d' := by rw [← hs1]; exact Array.extract_size
  have e2 : (Array.range n).extract 0 n = Array.range n := by
    have := Array.extract_size (xs := Array.range n)
    rwa [hsize] at this
  rw [e1, e2] at hp1
  have hds : ((Array.range n).toList.map (datR ds)) = ds := by
    apply List.ext_getElem?
    intro i
    rw [List.getElem?_map, Array.toList_range]
    have hl : ds.length = n := by rw [← hh.1]; exact hn
    by_cases hi : i < n
    · rw [List.getElem?_range hi, List.getElem?_eq_getElem (by omega)]
      simp only [Option.map_some, datR, List.getD_eq_getElem?_getD]
      rw [List.getElem?_eq_getElem (by omega)]; rfl
    · rw [List.getElem?_eq_none (by simp; omega), List.getElem?_eq_none (by omega)]; rfl
  have hperm : (d'.toList.map (datR ds)).Perm ds := by
    have := hp1.map (datR ds)
    rwa [hds] at this
  have hup : upR (d'.toList.map (datR ds)) := by
    unfold upR
    rw [List.pairwise_map, List.pairwise_iff_getElem]
    intro i j hi hj hij
    have hi' : i < d'.size := by simpa using hi
    have hj' : j < d'.size := by simpa using hj
    have := hso i j (Nat.zero_le _) hij (by omega)
    rw [lt_false, getElem!_pos d' j hj', getElem!_pos d' i hi'] at this
    have hneg := neg_cmpR (datR ds d'[i]) (datR ds d'[j])
    show cmpR (datR ds d'.toList[i]) (datR ds d'.toList[j]) ≤ 0
    rw [Array.getElem_toList, Array.getElem_toList]
    omega
  have hsort := sortR_of hup hperm
  refine ⟨he, ⟨d'.toList.map (encH hs), ?_, ?_⟩, below_sortWorld hbase (by omega)⟩
  · refine ⟨some ⟨B, 0, none⟩, cap, by simp [hs1], ⟨by simp [hs1]; exact hcap, fun h => by cases h⟩, by simp only [List.length_map, Array.length_toList, hs1]; unfold maxLen; omega, fun _ => ⟨B, 0, rfl, ⟨rfl, by simp only [List.length_map, Array.length_toList, hs1]; exact hsz⟩, fun j x hx i u hu => ?_⟩⟩
    match i, hu with
    | 0, hu =>
      simp [one] at hu
      subst hu
      rw [List.getElem?_map] at hx
      obtain ⟨y, hy, rfl⟩ := Option.map_eq_some_iff.1 hx
      have hj : j < d'.size := by simpa using (List.getElem?_eq_some_iff.1 hy).1
      have hy' : d'[j]! = y := by
        rw [getElem!_pos d' j hj]
        have := (List.getElem?_eq_some_iff.1 hy).2
        rwa [Array.getElem_toList] at this
      have hc := cell?_putRow (encH hs) (Sort.ahead w m) B 0 (Array.range n) d' hH (by rw [hs1, hsize]) j hj
      rw [hy'] at hc
      unfold sortWorld
      rw [cell?_grow _ _ _ (by rw [size_putRow]; exact hB)]
      simpa using hc
    | i + 1, hu => simp [one] at hu
  · rw [← hsort]
    refine ⟨by simp, fun j h r h1 h2 => ?_⟩
    rw [List.getElem?_map] at h1 h2
    obtain ⟨y, hy, rfl⟩ := Option.map_eq_some_iff.1 h1
    obtain ⟨y', hy', rfl⟩ := Option.map_eq_some_iff.1 h2
    rw [hy] at hy'
    injection hy' with hy'
    subst hy'
    exact row_sortWorld hq (heads_get hh y)
end Go.Proofs.Ytjekpclbedbaoaa.TN
