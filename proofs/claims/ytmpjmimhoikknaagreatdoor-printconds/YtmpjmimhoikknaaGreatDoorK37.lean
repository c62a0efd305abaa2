/-
  The document's examples.
  The reference's Query.
  What print says of a text that was read; and law13's shown.
  Same and SameNode of what is the same.
-/
import Derived.Test.YtmpjmimhoikknaaGreatDoorK12
import Derived.Test.YtmpjmimhoikknaaGreatDoorK17
import Derived.Test.YtmpjmimhoikknaaGreatDoorK33
import Derived.Test.YtmpjmimhoikknaaGreatDoorK36
import Derived.Deep.RegionHeldLaw
import Derived.Deep.RegionHeld3
namespace Go.Proofs.YtmpjmimhoikknaaGreatDoor
open Go.RowKit Go.Joins

def t1 : List UInt8 := [102, 101, 116, 99, 104, 32, 108, 111, 97, 100, 32, 124, 32, 119, 104, 101, 114, 101, 32, 104, 111, 115, 116, 32, 61, 32, 34, 97, 34, 32, 111, 114, 32, 110, 32, 62, 32, 53, 32, 97, 110, 100, 32, 117, 112, 32, 61, 32, 116, 114, 117, 101, 32, 124, 32, 116, 111, 112, 32, 51, 32, 98, 121, 32, 110]
def t2 : List UInt8 := [102, 101, 116, 99, 104, 32, 108, 111, 97, 100, 32, 124, 32, 106, 111, 105, 110, 32, 40, 102, 101, 116, 99, 104, 32, 108, 97, 116, 41, 32, 124, 32, 107, 101, 101, 112, 32, 104, 111, 115, 116]
def t3 : List UInt8 := [102, 101, 116, 99, 104, 32, 108, 111, 97, 100, 32, 124]
def t4 : List UInt8 := [102, 101, 116, 99, 104, 32, 108, 111, 97, 100, 32, 124, 32, 98, 121]
def t5 : List UInt8 := [102, 101, 116, 99, 104, 32, 53]
theorem q1_is : (queryO t1).2 = (0, 0) ∧ (queryO t1).1.map (·.l) = [[], [], [], [], [2, 3], [1, 4], [0, 5], [6]] ∧ (queryO t1).1.map (·.kind) = [1, 14, 14, 14, 11, 12, 2, 6] ∧ (queryO t1).1.map (·.n) = [0, 1, 5, 1, 0, 0, 0, 3] ∧ ((queryO t1).1.map (·.s))[7]? = some [110] := by decide +kernel
theorem q2_is : (queryO t2).2 = (0, 0) ∧ (queryO t2).1.map (·.l) = [[], [], [0, 1], [2]] := by decide +kernel
theorem q3_is : (queryO t3).2 = (12, 120) := by decide +kernel
theorem q4_is : (queryO t4).2 = (13, 120) := by decide +kernel
theorem q5_is : (queryO t5).2 = (6, 120) := by decide +kernel
/- A node of a row, with where it lies. -/
theorem Nq.len {n : Nat} {w : World} {v : Value} {ns : List Np} (h : Nq n w v ns) : ∃ p c, v = .slice p ns.length c ∧ ns.length ≤ c ∧ c ≤ maxLen := by
  obtain ⟨qs, h1, h2, h3⟩ := h
  obtain ⟨p, c, hv, hc, hm⟩ := (h1.sl nd_len).form
  exact ⟨p, c, by rw [hv, ← h3, List.length_map], by rw [← h3, List.length_map]; exact hc, hm⟩
/- The row's block and its nodes. -/
def Nr (n : Nat) (w : World) (g : Nat) (ns : List Np) : Prop := n ≤ g ∧ g < w.heap.size ∧ ∀ k x, ns[k]? = some x → ∃ q : Nd, q.np = x ∧ CellsAt w g (k * 19) q.cells ∧ NdIn n w q
theorem Nq.rows {n : Nat} {w : World} {v : Value} {ns : List Np} (h : Nq n w v ns) (hne : 0 < ns.length) : ∃ g c, v = .slice (some ⟨g, 0, none⟩) ns.length c ∧ ns.length ≤ c ∧ c ≤ maxLen ∧ Nr n w g ns := by
  obtain ⟨qs, h1, h2, h3⟩ := h
  have hl : qs.length = ns.length := by rw [← h3, List.length_map]
  rcases h1.2 with ⟨hv, h0⟩ | ⟨g, cap, cur, hv, hg, hblk, hc, hm, -⟩
  · omega
  · refine ⟨g, cap, by rw [hv, hl], by omega, hm, hg, lt_of_block hblk, fun k x hx => ?_⟩
    rw [← h3, List.getElem?_map] at hx
    cases hq : qs[k]? with
    | none => rw [hq] at hx; cases hx
    | some q =>
      rw [hq] at hx; cases hx
      refine ⟨q, rfl, ?_, h2 q (List.mem_of_getElem? hq)⟩
      have hs := h1.sl nd_len
      rw [hv] at hs
      obtain ⟨b, o, hp, _, hcell⟩ := hs.at hq
      cases hp
      simpa using hcell
theorem Nr.on {n : Nat} {w w' : World} {g : Nat} {ns : List Np} (h : Nr n w g ns) (hb : Below w.heap.size w w') : Nr n w' g ns :=
  ⟨h.1, Nat.lt_of_lt_of_le h.2.1 hb.size, fun k x hx => let ⟨q, h1, h2, h3⟩ := h.2.2 k x hx; ⟨q, h1, h2.kp (T := fun _ => False) (Kp.of hb) id, h3.on hb⟩⟩
theorem Nr.l {n : Nat} {w : World} {g : Nat} {ns : List Np} (h : Nr n w g ns) (k : Nat) {l : List Int} (hk : (ns.map (·.l))[k]? = some l) : ∃ lv, w.cell? ⟨g, k * 19 + 16, none⟩ = some lv ∧ Own int1 1 3 n w lv l := by
  rw [List.getElem?_map] at hk
  cases hx : ns[k]? with
  | none => rw [hx] at hk; cases hk
  | some x =>
    rw [hx] at hk; cases hk
    obtain ⟨q, rfl, h2, h3⟩ := h.2.2 k x hx
    exact ⟨q.lv, h2 16 _ rfl, h3.l⟩
theorem Nr.kind {n : Nat} {w : World} {g : Nat} {ns : List Np} (h : Nr n w g ns) (k : Nat) {x : Int} (hk : (ns.map (·.kind))[k]? = some x) : w.cell? ⟨g, k * 19, none⟩ = some (.int .i64 x) := by
  rw [List.getElem?_map] at hk
  cases hx : ns[k]? with
  | none => rw [hx] at hk; cases hk
  | some y =>
    rw [hx] at hk; cases hk
    obtain ⟨q, rfl, h2, h3⟩ := h.2.2 k y hx
    exact h2 0 _ rfl
theorem Nr.n {n : Nat} {w : World} {g : Nat} {ns : List Np} (h : Nr n w g ns) (k : Nat) {x : Int} (hk : (ns.map (·.n))[k]? = some x) : w.cell? ⟨g, k * 19 + 2, none⟩ = some (.int .i64 x) := by
  rw [List.getElem?_map] at hk
  cases hx : ns[k]? with
  | none => rw [hx] at hk; cases hk
  | some y =>
    rw [hx] at hk; cases hk
    obtain ⟨q, rfl, h2, h3⟩ := h.2.2 k y hx
    exact h2 2 _ rfl
theorem Nr.s {n : Nat} {w : World} {g : Nat} {ns : List Np} (h : Nr n w g ns) (k : Nat) {x : List UInt8} (hk : (ns.map (·.s))[k]? = some x) : w.cell? ⟨g, k * 19 + 1, none⟩ = some (.string (St x)) := by
  rw [List.getElem?_map] at hk
  cases hx : ns[k]? with
  | none => rw [hx] at hk; cases hk
  | some y =>
    rw [hx] at hk; cases hk
    obtain ⟨q, rfl, h2, h3⟩ := h.2.2 k y hx
    exact h2 1 _ rfl
theorem lit2 {W : World} (l : List Int) (hl : l.length ≤ 1000) {cs : Array Value} {n : Nat} (hc : cs = (l.flatMap int1).toArray) (hn : n = l.length) : SlAt (fun _ => True) int1 1 (W.alloc (.cells cs 3)) (.slice (some ⟨W.heap.size, 0, none⟩) n n) l := by
  subst hc
  subst hn
  exact ((own_ints W l hl (B := 0) (Nat.zero_le _)).sl (fun _ => rfl)).imp (fun _ _ => trivial)
/- What is read of the two answers. -/
structure Sw (w : World) (b1 b2 g1 g2 c1 c2 : Nat) : Prop where
  x1 : w.heap[b1]? = some (.cells #[.slice (some ⟨g1, 0, none⟩) 8 c1] 24 (0, 0))
  x2 : w.heap[b2]? = some (.cells #[.slice (some ⟨g2, 0, none⟩) 4 c2] 24 (0, 0))
  r1 : Nr 0 w g1 (queryO t1).1
  r2 : Nr 0 w g2 (queryO t2).1
theorem Sw.on {w w' : World} {b1 b2 g1 g2 c1 c2 : Nat} (h : Sw w b1 b2 g1 g2 c1 c2) (hb : Below w.heap.size w w') : Sw w' b1 b2 g1 g2 c1 c2 := ⟨block_on h.x1 hb, block_on h.x2 hb, h.r1.on hb, h.r2.on hb⟩
theorem at_of {ns : List Np} {ls : List (List Int)} (h : ns.map (·.l) = ls) {k : Nat} {l : List Int} (hk : ls[k]? = some l) : (ns.map (·.l))[k]? = some l := by rw [h]; exact hk
theorem len_of {ns : List Np} {ls : List (List Int)} (h : ns.map (·.l) = ls) : ns.length = ls.length := by rw [← h, List.length_map]
theorem Nr.le {n : Nat} {w : World} {g : Nat} {ns : List Np} (h : Nr n w g ns) : Nr 0 w g ns :=
  ⟨Nat.zero_le _, h.2.1, fun k x hx => let ⟨q, h1, h2, h3⟩ := h.2.2 k x hx; ⟨q, h1, h2, h3.le (Nat.zero_le _)⟩⟩
theorem St_eqL (l p : List UInt8) : ((St l).toList == p) = (l == p) := by
  rw [ByteArray.toList_eq, St_toList]
end Go.Proofs.YtmpjmimhoikknaaGreatDoor
namespace Go.Proofs.YtmpjmimhoikknaaGreatDoor
open Go.RowKit Go.Joins

abbrev S7 (b1 o1 b2 : Nat) (v1 v2 : Value) (w : World) : Prop := w.cell? ⟨b1, o1, none⟩ = some v1 ∧ w.cell? ⟨b2, 0, none⟩ = some v2
theorem s7D {b1 o1 b2 : Nat} {v1 v2 : Value} {w : World} (h : S7 b1 o1 b2 v1 v2 w) : S7 b1 o1 b2 v1 v2 w.drew := h
theorem s7S {b1 o1 b2 n : Nat} {v1 v2 v : Value} {w : World} (h1 : b1 ≠ n) (h2 : b2 ≠ n) (h : S7 b1 o1 b2 v1 v2 w) : S7 b1 o1 b2 v1 v2 (w.setCell ⟨n, 0, none⟩ v) :=
  ⟨(Kp.set (T := fun k => k = n) rfl v).cell h.1 h1, (Kp.set (T := fun k => k = n) rfl v).cell h.2 h2⟩
set_option maxRecDepth 100000 in
set_option maxHeartbeats 4000000 in
theorem RQuery_any (l : List UInt8) (hl : (l.length : Int) ≤ 140737488355328) (w : World) : Calls Tryz.prog 19 #[.string (St l)] w (WhP w (queryO l)) := by
  have hsz := St_size l
  have HB0 : Hid (Below w.heap.size w (w.alloc (.cells #[.slice none 0 0] 24))) := (Below.refl _ _).alloc (Nat.le_refl _) _
  have HZ := hid (alloc_block w (.cells #[.slice none 0 0] 24))
  have HC := hid (rlex_any l hl (w.alloc (.cells #[.slice none 0 0] 24)))
  have HQO : Hid (queryO l = match lexO l with
    | (tks, a, e) => if e = 0 then (if (parseS (tks.map tp)).2.2 = 0 then ((parseS (tks.map tp)).1, 0, 0) else ([], placeS tks (parseS (tks.map tp)).2.1 l.length, (parseS (tks.map tp)).2.2)) else ([], a, e)) := rfl
  unfold LexP at HC
  generalize lexO l = O at *
  generalize queryO l = R at *
  obtain ⟨tks, a0, e0⟩ := O
  generalize hW : w.alloc (.cells #[.slice none 0 0] 24) = w1 at *
  have HW := hid hW
  clear hW
  simp only at HQO HC
  by_cases he0 : e0 = 0
  · subst he0
    have hP : Hid (∀ {w : World} {tv : Value}, SlAt (fun b => b < w.heap.size) Tp.cells 4 w tv (tks.map tp) → Calls Tryz.prog 45 #[tv] w (WhP w (parseS (tks.map tp)))) := fun h => RParse_any h
    have hbad : Hid (¬ (parseS (tks.map tp)).2.2 = 0 → (parseS (tks.map tp)).1 = []) := fun h => by
      unfold parseS wholeS at h ⊢
      split
      · rfl
      · rename_i h1
        rw [if_neg h1] at h
        split
        · rfl
        · rename_i r j hq
          rw [hq] at h
          simp only at h
          split
          · rfl
          · rename_i h2
            rw [if_neg h2] at h
            split
            · rfl
            · rename_i h3; rw [if_neg h3] at h; exact absurd rfl h
    rw [if_pos rfl] at HQO
    generalize parseS (tks.map tp) = P at *
    obtain ⟨ns, n1, e1⟩ := P
    simp only at HQO hbad
    by_cases he1 : e1 = 0
    · subst he1
      rw [if_pos rfl] at HQO
      clear hbad
      go_enter Tryz.func19, Tryz.ntmps19
      go_upto_region 1 with fail
      rw [HW.out]
      go_wp2_with (first
        | (go_at_call 21; refine HC.out.mono ?_; rintro e w2 ⟨v, rfl, ht, hb⟩; have HT := hid ht.sl2; have HB2 := hid hb; have HZ2 := hid (block_on HZ.out hb); clear hb ht)
        | (go_at_call 45; refine (hP.out (HT.out.imp (fun _ hb => hb.2))).mono ?_; rintro e w3 ⟨v3, rfl, hn, hb⟩; obtain ⟨pv, cv, rfl, -, -⟩ := hn.len; have HNQ := hid (hn.on ((Below.refl _ _).alloc (Nat.le_refl _) (.cells #[.slice pv ns.length cv] 24))); have HBB := hid (hb.alloc hb.size (.cells #[.slice pv ns.length cv] 24)); have HZ3 := hid (block_on HZ2.out HBB.out); have HQ3 := hid (alloc_block w3 (.cells #[.slice pv ns.length cv] 24)); have k3 := block_cell HQ3.out; have kz := block_cell HZ3.out; have fz := block_frozen HZ3.out; clear hb hn))
      have k9 := block_cell (q_set HZ3.out (.slice pv ns.length cv))
      obtain ⟨x1, x2⟩ := q_box2 HZ.out HB0.out (HNQ.out.le HB2.out.size) (HB2.out.trans (HBB.out.mono HB2.out.size)) (Kp.set (T := fun k => k = w.heap.size) (i := 0) rfl (.slice pv ns.length cv))
      refine bodyPost_ret (v := .tuple #[.agg #[.slice pv ns.length cv], .int .i64 0, .int .i64 0]) (by simp [results, Tryz.results19, go_sem, k9]) rfl ?_
      show WhP _ _ _ _
      rw [HQO.out]
      exact ⟨_, rfl, x1, x2⟩
    · rw [if_neg he1] at HQO
      have b1 : (e1 == 0) = false := by simp [he1]
      obtain rfl := hbad.out he1
      clear hbad he1
      by_cases hi : n1 < tks.length
      · have iI : (n1 : Int) < tks.length := by omega
        have n0' : (0 : Int) ≤ n1 := by omega
        obtain ⟨tk, htk⟩ : ∃ t, tks[n1]? = some t := ⟨_, List.getElem?_eq_getElem hi⟩
        have HP : Hid (placeS tks n1 l.length = tk.at_) := by show _ = _; unfold placeS; rw [htk]
        have HTk : Hid ((tks.map tp)[n1]? = some (tp tk)) := by show _ = _; rw [List.getElem?_map, htk]; rfl
        clear hi htk
        go_enter Tryz.func19, Tryz.ntmps19
        go_upto_region 1 with fail
        rw [HW.out]
        go_upto_region 8 with (first
          | (go_at_call 21; refine HC.out.mono ?_; rintro e w2 ⟨v, rfl, ht, hb⟩; have HT := hid ht.sl2; obtain ⟨pt, ct, rfl, -, -⟩ := ht.sl2.form; simp only [List.length_map] at HT; have HB2 := hid hb; have HZ2 := hid (block_on HZ.out hb); clear hb ht)
          | (go_at_call 45; refine (hP.out (HT.out.imp (fun _ hb => hb.2))).mono ?_; rintro e w3 ⟨v3, rfl, hn, hb⟩; have HS3 := hid hb.size; obtain ⟨pv, cv, rfl, -, -⟩ := hn.len; have HNQ := hid (hn.on ((Below.refl _ _).alloc (Nat.le_refl _) (.cells #[.slice pv 0 cv] 24))); have HBB := hid (hb.alloc hb.size (.cells #[.slice pv 0 cv] 24)); have HZ3 := hid (block_on HZ2.out HBB.out); have HQ3 := hid (alloc_block w3 (.cells #[.slice pv 0 cv] 24)); clear hb hn))
        obtain ⟨g, og, rfl, hg, hc⟩ := HT.out.at (j := n1) HTk.out
        have e3 : w2.cell? ⟨g, og + n1 * 4 + 3, none⟩ = some (.int .i64 (tk.at_ : Int)) := hc 3 _ rfl
        have hg1 : g ≠ w.heap.size := by have := lt_of_block HZ.out; omega
        have hg2 : w3.heap.size ≠ w.heap.size := by have := lt_of_block HZ2.out; have := HS3.out; omega
        have e4 := (HBB.out.cell (p := ⟨g, og + n1 * 4 + 3, none⟩) (block_lt_of_cell e3)).trans e3
        have hS0 : S7 g (og + n1 * 4 + 3) w3.heap.size (.int .i64 (tk.at_ : Int)) (.slice pv 0 cv) (w3.alloc (.cells #[.slice pv 0 cv] 24)) := ⟨e4, block_cell HQ3.out 0⟩
        have HZ4 := hid (block_on HZ3.out (Below.refl _ _).drew)
        have kz := block_cell HZ4.out
        have fz := block_frozen HZ4.out
        have HBd := hid HBB.out.drew
        have HNd := hid (HNQ.out.on (Below.refl _ _).drew)
        clear hc hg e3 e4
        generalize w3.heap.size = qb at *
        generalize w3.alloc (.cells #[.slice pv 0 cv] 24) = W3 at *
        go_region_held3 (S7 g (og + n1 * 4 + 3) qb (.int .i64 (tk.at_ : Int)) (.slice pv 0 cv)) (((repeat (first | (with_reducible refine s7D ?_) | (with_reducible refine s7S hg1 hg2 ?_))); (with_reducible assumption))) (fail)
        go_wp2
        have k9 := block_cell (block_on (q_set HZ3.out (.slice pv 0 cv)) (Below.refl _ _).drew)
        obtain ⟨x1, x2⟩ := q_box2 HZ.out HB0.out (HNQ.out.le HB2.out.size) (HB2.out.trans (HBB.out.mono HB2.out.size)) ((Kp.set (T := fun k => k = w.heap.size) (i := 0) rfl (.slice pv 0 cv)).trans (Kp.drew _ _))
        refine bodyPost_ret (v := .tuple #[.agg #[.slice pv 0 cv], .int .i64 (tk.at_ : Int), .int .i64 e1]) (by simp [results, Tryz.results19, go_sem, k9]) rfl ?_
        show WhP _ _ _ _
        rw [HQO.out, HP.out]
        exact ⟨_, rfl, x1, x2⟩
      · have iI : ¬ (n1 : Int) < tks.length := by omega
        have HP : Hid (placeS tks n1 l.length = l.length) := by show _ = _; unfold placeS; rw [List.getElem?_eq_none (by omega)]
        clear hi
        go_enter Tryz.func19, Tryz.ntmps19
        go_upto_region 1 with fail
        rw [HW.out]
        go_upto_region 9 with (first
          | (go_at_call 21; refine HC.out.mono ?_; rintro e w2 ⟨v, rfl, ht, hb⟩; have HT := hid ht.sl2; obtain ⟨pt, ct, rfl, -, -⟩ := ht.sl2.form; simp only [List.length_map] at HT; have HB2 := hid hb; have HZ2 := hid (block_on HZ.out hb); clear hb ht)
          | (go_at_call 45; refine (hP.out (HT.out.imp (fun _ hb => hb.2))).mono ?_; rintro e w3 ⟨v3, rfl, hn, hb⟩; have HS3 := hid hb.size; obtain ⟨pv, cv, rfl, -, -⟩ := hn.len; have HNQ := hid (hn.on ((Below.refl _ _).alloc (Nat.le_refl _) (.cells #[.slice pv 0 cv] 24))); have HBB := hid (hb.alloc hb.size (.cells #[.slice pv 0 cv] 24)); have HZ3 := hid (block_on HZ2.out HBB.out); have HQ3 := hid (alloc_block w3 (.cells #[.slice pv 0 cv] 24)); clear hb hn))
        have k3 := block_cell HQ3.out
        have kz := block_cell HZ3.out
        have fz := block_frozen HZ3.out
        go_wp2_with fail
        have k9 := block_cell (q_set HZ3.out (.slice pv 0 cv))
        obtain ⟨x1, x2⟩ := q_box2 HZ.out HB0.out (HNQ.out.le HB2.out.size) (HB2.out.trans (HBB.out.mono HB2.out.size)) (Kp.set (T := fun k => k = w.heap.size) (i := 0) rfl (.slice pv 0 cv))
        refine bodyPost_ret (v := .tuple #[.agg #[.slice pv 0 cv], .int .i64 (l.length : Int), .int .i64 e1]) (by simp [results, Tryz.results19, go_sem, k9]) rfl ?_
        show WhP _ _ _ _
        rw [HQO.out, HP.out]
        exact ⟨_, rfl, x1, x2⟩
  · rw [if_neg he0] at HQO
    have b0 : (e0 != 0) = true := by simp [he0]
    have kz0 := block_cell HZ.out
    clear he0 kz0
    go_enter Tryz.func19, Tryz.ntmps19
    go_upto_region 1 with fail
    rw [HW.out]
    go_wp2_with (go_at_call 21; refine HC.out.mono ?_; rintro e w2 ⟨v, rfl, ht, hb⟩; have HB2 := hid hb; have HZ2 := hid (block_on HZ.out hb); have kz := block_cell HZ2.out; have fz := block_frozen HZ2.out; clear hb ht)
    have k9 := block_cell (q_set HZ2.out (.slice none 0 0))
    have hx := HB0.out.trans (HB2.out.mono HB0.out.size)
    refine bodyPost_ret (v := .tuple #[.agg #[.slice none 0 0], .int .i64 (a0 : Int), .int .i64 e0]) (by simp [results, Tryz.results19, go_sem, k9]) rfl ?_
    show WhP _ _ _ _
    rw [HQO.out]
    exact ⟨_, rfl, Nq.nil _ _, hx.trans ((Kp.set (T := fun k => k = w.heap.size) (i := 0) rfl (.slice none 0 0)).below hx.size (fun k e => by omega))⟩
end Go.Proofs.YtmpjmimhoikknaaGreatDoor
namespace Go.Proofs.YtmpjmimhoikknaaGreatDoor
open Go.RowKit Go.Joins

theorem wq_words {qs : List Nx} {ns : List Np} (h : Prs qs ns) : wordsX qs = wq ns := by
  unfold wordsX wq
  rw [h.xn, h.len]
section
variable {w : World} {v : Value}
theorem Nq.prs {n : Nat} {l : List UInt8} (he : (queryO l).2.2 = 0) (h : Nq n w v (queryO l).1) : ∃ qs, Qx (fun b => n ≤ b ∧ b < w.heap.size) w v qs ∧ Prs qs (queryO l).1 ∧ chkB qs = true := by
  obtain ⟨qs, h1, -, h3, h4⟩ := h.qx
  obtain ⟨hp, hc⟩ := prs_of he (fun q hq => h4 q hq) h3
  exact ⟨qs, h1, hp, hc⟩
theorem Print_read {n : Nat} {l : List UInt8} {z : List UInt8 × Int} (he : (queryO l).2.2 = 0) (hz : textO (wq (queryO l).1) = z) (h : Nq n w v (queryO l).1) (hG : Gq w) : Calls Tryz.prog 13 #[.agg #[v]] w fun e w' => e = .returned (.tuple #[.string (St z.1), .int .i64 z.2]) ∧ Below w.heap.size w w' := by
  obtain ⟨qs, h1, hp, hc⟩ := h.prs he
  have hw := wq_words hp
  have hO : printO qs = z := by unfold printO; rw [hc, if_pos rfl, hw, hz]
  have hn := (isTree_ne (chk_tree hc)).1
  rw [List.length_map] at hn
  have := Print_any (h1.imp (fun _ hb => hb.2)) hG hp.room (fun _ => by rw [hp.wordsX]; exact hp.jw (by omega))
  rwa [hO] at this
theorem Print_none (hG : Gq w) : Calls Tryz.prog 13 #[.agg #[.slice none 0 0]] w fun e w' => e = .returned (.tuple #[.string (St []), .int .i64 120]) ∧ Below w.heap.size w w' := by
  have hx : Qx (fun b => b < w.heap.size) w (.slice none 0 0) [] := ⟨(Own.nil _ _ 0 w.heap.size w).sl nd_len |>.imp (fun _ hb => hb.2) |>.map (f := Nx.of) (fun _ => rfl), fun q hq => by simp at hq⟩
  have hR : Room [] := ⟨fun q hq => by simp at hq, fun _ i hi => by simp at hi, fun i s hs => by revert hs; cases i <;> simp [wd]⟩
  have := Print_any hx hG hR (fun h => by revert h; decide)
  have hO : printO [] = ([], 120) := by decide
  rwa [hO] at this
end
def u1 : List UInt8 := [102, 101, 116, 99, 104, 32, 108, 111, 97, 100, 124, 119, 104, 101, 114, 101, 40, 104, 111, 115, 116, 61, 34, 97, 34, 111, 114, 32, 110, 62, 53, 41, 97, 110, 100, 32, 117, 112, 61, 116, 114, 117, 101, 124, 116, 111, 112, 32, 51, 32, 98, 121, 32, 110]
def u2 : List UInt8 := [102, 101, 116, 99, 104, 32, 108, 111, 97, 100, 32, 124, 32, 103, 114, 111, 117, 112, 58, 99, 111, 117, 110, 116, 44, 115, 117, 109, 32, 110]
def o1 : List UInt8 := [102, 101, 116, 99, 104, 32, 108, 111, 97, 100, 32, 124, 32, 119, 104, 101, 114, 101, 32, 40, 104, 111, 115, 116, 32, 61, 32, 34, 97, 34, 32, 111, 114, 32, 110, 32, 62, 32, 53, 41, 32, 97, 110, 100, 32, 117, 112, 32, 61, 32, 116, 114, 117, 101, 32, 124, 32, 116, 111, 112, 32, 51, 32, 98, 121, 32, 110]
def o2 : List UInt8 := [102, 101, 116, 99, 104, 32, 108, 111, 97, 100, 32, 124, 32, 103, 114, 111, 117, 112, 32, 58, 32, 99, 111, 117, 110, 116, 44, 32, 115, 117, 109, 32, 110]
theorem u1_is : (queryO u1).2 = (0, 0) := by decide +kernel
theorem u2_is : (queryO u2).2 = (0, 0) := by decide +kernel
theorem u1_to : textO (wq (queryO u1).1) = (o1, 0) := by decide +kernel
theorem u2_to : textO (wq (queryO u2).1) = (o2, 0) := by decide +kernel
theorem rq_is {l : List UInt8} {a : Nat} {e : Int} (h : (queryO l).2 = (a, e)) (hl : (l.length : Int) ≤ 140737488355328) (w : World) : Calls Tryz.prog 19 #[.string (St l)] w fun x w' => ∃ p k, x = .returned (.tuple #[.agg #[.slice p (queryO l).1.length k], .int .i64 (a : Int), .int .i64 e]) ∧ Nq w.heap.size w' (.slice p (queryO l).1.length k) (queryO l).1 ∧ Below w.heap.size w w' := by
  refine (RQuery_any l hl w).mono ?_
  rintro x w' ⟨v, rfl, h1, h2⟩
  obtain ⟨p, k, rfl, -⟩ := h1.len
  rw [h]
  exact ⟨p, k, rfl, h1, h2⟩
set_option maxRecDepth 100000 in
set_option maxHeartbeats 2000000 in
theorem pshown_any (w : World) (hG : Gq w) : Calls Tryz.prog 11 #[] w fun e w' => e = .returned (.bool true) ∧ Below w.heap.size w w' := by
  have HG := hid hG
  have M1 : Hid True := trivial
  have M2 : Hid True := trivial
  have N1 : Hid True := trivial
  have N2 : Hid True := trivial
  have q1 : (St o1).toList = [102, 101, 116, 99, 104, 32, 108, 111, 97, 100, 32, 124, 32, 119, 104, 101, 114, 101, 32, 40, 104, 111, 115, 116, 32, 61, 32, 34, 97, 34, 32, 111, 114, 32, 110, 32, 62, 32, 53, 41, 32, 97, 110, 100, 32, 117, 112, 32, 61, 32, 116, 114, 117, 101, 32, 124, 32, 116, 111, 112, 32, 51, 32, 98, 121, 32, 110] := by rw [ByteArray.toList_eq, St_toList]; rfl
  have q2 : (St o2).toList = [102, 101, 116, 99, 104, 32, 108, 111, 97, 100, 32, 124, 32, 103, 114, 111, 117, 112, 32, 58, 32, 99, 111, 117, 110, 116, 44, 32, 115, 117, 109, 32, 110] := by rw [ByteArray.toList_eq, St_toList]; rfl
  clear hG
  go_enter Tryz.func11, Tryz.ntmps11
  go_upto_region 3 with (first
    | (go_at_call 19; have FIRST := M1; refine (rq_is (l := u1) u1_is (by decide) _).mono ?_; rintro e w1 ⟨p1, k1, rfl, hn, hb⟩; generalize hl : (queryO u1).1.length = ln1 at *; have HL1 := hid hl; have HB1 := hid (hb.alloc hb.size (.cells #[.slice p1 ln1 k1] 24)); have HN1 := hid (hn.on ((Below.refl _ _).alloc (Nat.le_refl _) (.cells #[.slice p1 ln1 k1] 24))); have HX1 := hid (alloc_block w1 (.cells #[.slice p1 ln1 k1] 24)); clear hn hb hl M1)
    | (go_at_call 19; have FIRST := M2; refine (rq_is (l := u2) u2_is (by decide) _).mono ?_; rintro e w2 ⟨p2, k2, rfl, hn, hb⟩; generalize hl : (queryO u2).1.length = ln2 at *; have HL2 := hid hl; have HB2 := hid (hb.alloc hb.size (.cells #[.slice p2 ln2 k2] 24)); have HN2 := hid (hn.on ((Below.refl _ _).alloc (Nat.le_refl _) (.cells #[.slice p2 ln2 k2] 24))); have HX2 := hid (alloc_block w2 (.cells #[.slice p2 ln2 k2] 24)); have HN12 := hid (HN1.out.on HB2.out); have HX12 := hid (block_on HX1.out HB2.out); clear hn hb hl M2))
  generalize w2.alloc (.cells #[.slice p2 ln2 k2] 24) = W2 at *
  have HBW : Hid (Below w.heap.size w W2) := HB1.out.trans (HB2.out.mono HB1.out.size)
  have HG2 := hid (HG.out.next HBW.out)
  generalize w1.heap.size = bA at *
  generalize w2.heap.size = bB at *
  have y1 := block_cell HX12.out 0
  have y2 := block_cell HX2.out 0
  clear HB1 HB2 HN1 HX1
  go_upto_region 6 with (first
    | (go_at_call 13; have FIRST := N1; refine (Print_read (l := u1) (by rw [u1_is]) u1_to HN12.out HG2.out).mono ?_; rintro e w3 ⟨rfl, hb⟩; have HB3 := hid hb; have y3 := block_cell (block_on HX2.out hb) 0; have HN3 := hid (HN2.out.on hb); clear hb N1)
    | (go_at_call 13; have FIRST := N2; refine (Print_read (l := u2) (by rw [u2_is]) u2_to HN3.out (HG2.out.next HB3.out)).mono ?_; rintro e w4 ⟨rfl, hb⟩; have HB4 := hid (HB3.out.trans (hb.mono HB3.out.size)); clear hb N2)
    | (go_at_call 13; refine (Print_none (HG2.out.next HB4.out)).mono ?_; rintro e w5 ⟨rfl, hb⟩; have HB5 := hid (HB4.out.trans (hb.mono HB4.out.size)); clear hb))
  go_wp2
  all_goals first
    | (exfalso; contradiction)
    | skip
  go_ret
  exact ⟨rfl, HBW.out.trans (HB5.out.mono HBW.out.size)⟩
end Go.Proofs.YtmpjmimhoikknaaGreatDoor
namespace Go.Proofs.YtmpjmimhoikknaaGreatDoor
open Go.RowKit Go.Joins

theorem St_self (s : List UInt8) : ((St s).toList == (St s).toList) = true := by simp
set_option maxRecDepth 100000 in
set_option maxHeartbeats 2000000 in
theorem sameNode_any {w : World} {B1 B2 : Nat} {q1 q2 : Nd} (h1 : NdIn B1 w q1) (h2 : NdIn B2 w q2) (he : q1.np = q2.np) : Calls Tryz.prog 23 #[.agg q1.cells.toArray, .agg q2.cells.toArray] w fun e w' => e = .returned (.bool true) ∧ Below w.heap.size w w' := by
  obtain ⟨n, l1, n1, g1⟩ := q1
  obtain ⟨n', l2, n2, g2⟩ := q2
  cases he
  have HB : Hid (Below w.heap.size w ((w.alloc (.cells (⟨n, l1, n1, g1⟩ : Nd).cells.toArray 44)).alloc (.cells (⟨n, l2, n2, g2⟩ : Nd).cells.toArray 44))) := ((Below.refl _ _).alloc (Nat.le_refl _) _).alloc (by simp) _
  have hA := (Kp.alloc (fun _ => False) (w.alloc (.cells (⟨n, l1, n1, g1⟩ : Nd).cells.toArray 44)) (.cells (⟨n, l2, n2, g2⟩ : Nd).cells.toArray 44)).blk (alloc_block w _) id
  have hZ := alloc_block (w.alloc (.cells (⟨n, l1, n1, g1⟩ : Nd).cells.toArray 44)) (.cells (⟨n, l2, n2, g2⟩ : Nd).cells.toArray 44)
  rw [World.size_alloc] at hZ
  have k1 := block_cell hA
  have k2 := block_cell hZ
  have HR1 := hid (s6_range hA)
  have HR2 := hid (s6_range hZ)
  generalize hW : ((w.alloc (.cells (⟨n, l1, n1, g1⟩ : Nd).cells.toArray 44)).alloc (.cells (⟨n, l2, n2, g2⟩ : Nd).cells.toArray 44)) = W at *
  have HW := hid hW
  have HI1 := hid (h1.on HB.out)
  have HI2 := hid (h2.on HB.out)
  have HA := hid hA
  have HZ := hid hZ
  clear hW h1 h2 hA hZ
  simp only [Nd.cells] at k1 k2 HW
  have e1 : (n.kind != n.kind) = false := by simp
  have e2 := St_self n.s
  have e3 : (n.n != n.n) = false := by simp
  have e4 : (n.from_ != n.from_) = false := by simp
  have e5 : (n.to_ != n.to_) = false := by simp
  have ev := eql_val (n.vk, n.vn, n.vs)
  obtain ⟨ol1, on1, og1⟩ : Own int1 1 3 B1 W l1 n.l ∧ Own str1 1 9 B1 W n1 n.names ∧ Own ag2 2 61 B1 W g1 n.aggs := ⟨HI1.out.l, HI1.out.n, HI1.out.g⟩
  obtain ⟨ol2, on2, og2⟩ : Own int1 1 3 B2 W l2 n.l ∧ Own str1 1 9 B2 W n2 n.names ∧ Own ag2 2 61 B2 W g2 n.aggs := ⟨HI2.out.l, HI2.out.n, HI2.out.g⟩
  obtain ⟨pl1, cl1, f1⟩ : ∃ p c, l1 = .slice p n.l.length c := ol1.form
  obtain ⟨pn1, cn1, f2⟩ : ∃ p c, n1 = .slice p n.names.length c := on1.form
  obtain ⟨pg1, cg1, f3⟩ : ∃ p c, g1 = .slice p n.aggs.length c := og1.form
  obtain ⟨pl2, cl2, f4⟩ : ∃ p c, l2 = .slice p n.l.length c := ol2.form
  obtain ⟨pn2, cn2, f5⟩ : ∃ p c, n2 = .slice p n.names.length c := on2.form
  obtain ⟨pg2, cg2, f6⟩ : ∃ p c, g2 = .slice p n.aggs.length c := og2.form
  have HL1 := hid (ol1.sl (fun _ => rfl))
  have HL2 := hid (ol2.sl (fun _ => rfl))
  have HN1 := hid (on1.sl (fun _ => rfl))
  have HN2 := hid (on2.sl (fun _ => rfl))
  have HG1 := hid (og1.sl (fun _ => rfl))
  have HG2 := hid (og2.sl (fun _ => rfl))
  clear HI1 HI2 ol1 on1 og1 ol2 on2 og2
  subst f1 f2 f3 f4 f5 f6
  have m1 : (n.l.length : Int) ≤ 9223372036854775807 := by obtain ⟨_, _, _, x1, x2⟩ := HL1.out.form; unfold maxLen at x2; omega
  have m2 : (n.names.length : Int) ≤ 9223372036854775807 := by obtain ⟨_, _, _, x1, x2⟩ := HN1.out.form; unfold maxLen at x2; omega
  have m3 : (n.aggs.length : Int) ≤ 9223372036854775807 := by obtain ⟨_, _, _, x1, x2⟩ := HG1.out.form; unfold maxLen at x2; omega
  simp only [Nd.cells]
  have b1 : ((n.l.length : Int) != n.l.length) = false := by simp
  have b2 : ((n.names.length : Int) != n.names.length) = false := by simp
  have b3 : ((n.aggs.length : Int) != n.aggs.length) = false := by simp
  go_enter Tryz.func23, Tryz.ntmps23
  go_upto_region 1 with fail
  rw [HW.out]
  go_wp2_with fail
  clear k1 k2
  go_loopw [5] (fun x wr => ∃ k : Nat, k ≤ n.l.length ∧ x = .int .i64 k ∧ Hid (Below W.heap.size W wr)) (fun x _ => n.l.length - (intOf x).toNat)
  case atStart => exact ⟨0, by omega, rfl, Below.refl _ _⟩
  case round =>
    obtain ⟨k, hk, rfl, HBr⟩ := hrel
    have c1 := block_cell (block_on HA.out HBr.out) 16
    have c2 := block_cell (block_on HZ.out HBr.out) 16
    simp only [Nd.cells] at c1 c2
    by_cases hlt : k < n.l.length
    · obtain ⟨x, hx⟩ : ∃ x, n.l[k]? = some x := ⟨n.l[k], List.getElem?_eq_getElem hlt⟩
      obtain ⟨ga, oa, hpa, -, ha⟩ := (HL1.out.on HBr.out).at hx
      obtain ⟨gb, ob, hpb, -, hb⟩ := (HL2.out.on HBr.out).at hx
      have kI : (k : Int) < n.l.length := by omega
      have k0 : (0 : Int) ≤ k := by omega
      subst hpa hpb
      have d1 : wr.cell? ⟨ga, oa + k, none⟩ = some (.int .i64 x) := by have := ha 0 _ rfl; simpa using this
      have d2 : wr.cell? ⟨gb, ob + k, none⟩ = some (.int .i64 x) := by have := hb 0 _ rfl; simpa using this
      have eI : (x != x) = false := by simp

      clear ha hb hx
      go_upto_region 6 with fail
      go_quiet (fail)
      go_wp2_with fail
      go_roundw
      case rel => exact ⟨k + 1, by omega, by go_num, below_drewN HBr.out _⟩
      case measure => simp [intOf]; omega
    · have kI : ¬ (k : Int) < n.l.length := by omega
      go_wp2_with fail
      have HB1 := hid HBr.out
      clear c1 c2 HBr
      go_loopw [6] (fun x wr => ∃ k : Nat, k ≤ n.names.length ∧ x = .int .i64 k ∧ Hid (Below W.heap.size W wr)) (fun x _ => n.names.length - (intOf x).toNat)
      case atStart => exact ⟨0, by omega, rfl, HB1.out⟩
      case round =>
        obtain ⟨k, hk, rfl, HBr⟩ := hrel
        have c1 := block_cell (block_on HA.out HBr.out) 17
        have c2 := block_cell (block_on HZ.out HBr.out) 17
        simp only [Nd.cells] at c1 c2
        by_cases hlt : k < n.names.length
        · obtain ⟨x, hx⟩ : ∃ x, n.names[k]? = some x := ⟨n.names[k], List.getElem?_eq_getElem hlt⟩
          obtain ⟨ga, oa, hpa, -, ha⟩ := (HN1.out.on HBr.out).at hx
          obtain ⟨gb, ob, hpb, -, hb⟩ := (HN2.out.on HBr.out).at hx
          have kI : (k : Int) < n.names.length := by omega
          have k0 : (0 : Int) ≤ k := by omega
          subst hpa hpb
          have d1 : wr.cell? ⟨ga, oa + k, none⟩ = some (.string (St x)) := by have := ha 0 _ rfl; simpa using this
          have d2 : wr.cell? ⟨gb, ob + k, none⟩ = some (.string (St x)) := by have := hb 0 _ rfl; simpa using this
          have eS := St_self x

          clear ha hb hx
          go_upto_region 11 with fail
          go_quiet (fail)
          go_wp2_with fail
          go_roundw
          case rel => exact ⟨k + 1, by omega, by go_num, below_drewN HBr.out _⟩
          case measure => simp [intOf]; omega
        · have kI : ¬ (k : Int) < n.names.length := by omega
          go_wp2_with fail
          have HB2 := hid HBr.out
          clear c1 c2 HBr
          go_loopw [7] (fun x wr => ∃ k : Nat, k ≤ n.aggs.length ∧ x = .int .i64 k ∧ Hid (Below W.heap.size W wr)) (fun x _ => n.aggs.length - (intOf x).toNat)
          case atStart => exact ⟨0, by omega, rfl, HB2.out⟩
          case round =>
            obtain ⟨k, hk, rfl, HBr⟩ := hrel
            have c1 := block_cell (block_on HA.out HBr.out) 18
            have c2 := block_cell (block_on HZ.out HBr.out) 18
            simp only [Nd.cells] at c1 c2
            by_cases hlt : k < n.aggs.length
            · obtain ⟨x, hx⟩ : ∃ x, n.aggs[k]? = some x := ⟨n.aggs[k], List.getElem?_eq_getElem hlt⟩
              obtain ⟨ga, oa, hpa, -, ha⟩ := (HG1.out.on HBr.out).at hx
              obtain ⟨gb, ob, hpb, -, hb⟩ := (HG2.out.on HBr.out).at hx
              have kI : (k : Int) < n.aggs.length := by omega
              have k0 : (0 : Int) ≤ k := by omega
              subst hpa hpb
              have d1 : wr.cell? ⟨ga, oa + k * 2, none⟩ = some (.int .i64 x.1) := ha 0 _ rfl
              have d2 : wr.cell? ⟨gb, ob + k * 2, none⟩ = some (.int .i64 x.1) := hb 0 _ rfl
              have d3 : wr.cell? ⟨ga, oa + k * 2 + 1, none⟩ = some (.string (St x.2)) := ha 1 _ rfl
              have d4 : wr.cell? ⟨gb, ob + k * 2 + 1, none⟩ = some (.string (St x.2)) := hb 1 _ rfl
              have eA := eql_agg x.1 (St x.2)

              clear ha hb hx
              go_upto_region 16 with fail
              go_quiet (fail)
              go_wp2_with fail
              go_roundw
              case rel => exact ⟨k + 1, by omega, by go_num, below_drewN HBr.out _⟩
              case measure => simp [intOf]; omega
            · have kI : ¬ (k : Int) < n.aggs.length := by omega
              go_wp2_with fail
              go_ret
              exact ⟨rfl, HB.out.trans (HBr.out.mono HB.out.size)⟩
end Go.Proofs.YtmpjmimhoikknaaGreatDoor
