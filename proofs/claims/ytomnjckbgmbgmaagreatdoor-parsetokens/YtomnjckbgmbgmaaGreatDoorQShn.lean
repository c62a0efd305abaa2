/-
  The document's examples.
-/
import Derived.Test.YtomnjckbgmbgmaaGreatDoorQPRn
namespace Go.Proofs.YtomnjckbgmbgmaaGreatDoor
open Go.RowKit Go.Joins

def t1 : List UInt8 := [102, 101, 116, 99, 104, 32, 108, 111, 97, 100, 32, 124, 32, 119, 104, 101, 114, 101, 32, 104, 111, 115, 116, 32, 61, 32, 34, 97, 34, 32, 111, 114, 32, 110, 32, 62, 32, 53, 32, 97, 110, 100, 32, 117, 112, 32, 61, 32, 116, 114, 117, 101, 32, 124, 32, 116, 111, 112, 32, 51, 32, 98, 121, 32, 110]
def t2 : List UInt8 := [102, 101, 116, 99, 104, 32, 108, 111, 97, 100, 32, 124, 32, 106, 111, 105, 110, 32, 40, 102, 101, 116, 99, 104, 32, 108, 97, 116, 41, 32, 124, 32, 107, 101, 101, 112, 32, 104, 111, 115, 116]
def t3 : List UInt8 := [102, 101, 116, 99, 104, 32, 108, 111, 97, 100, 32, 124]
def t4 : List UInt8 := [102, 101, 116, 99, 104, 32, 108, 111, 97, 100, 32, 124, 32, 98, 121]
def t5 : List UInt8 := [102, 101, 116, 99, 104, 32, 53]
theorem q1_is : (queryO t1).2 = (0, 0) ∧ (queryO t1).1.map (·.l) = [[], [], [], [], [2, 3], [1, 4], [0, 5], [6]] ∧ (queryO t1).1.map (·.kind) = [1, 14, 14, 14, 11, 12, 2, 6] ∧ (queryO t1).1.map (·.n) = [0, 1, 5, 1, 0, 0, 0, 3] ∧ ((queryO t1).1.map (·.s))[7]? = some [110] := by decide +kernel
theorem q2_is : (queryO t2).2 = (0, 0) ∧ (queryO t2).1.map (·.l) = [[], [], [0, 1], [2]] := by decide +kernel
theorem q3_is : (queryO t3).2 = (12, 120) := by decide +kernel
theorem q4_is : (queryO t4).2 = (13, 120) := by decide +kernel
theorem q5_is : (queryO t5).2 = (6, 120) := by decide +kernel
/- A node of a row, with where it lies. -/
theorem Nq.len {n : Nat} {w : World} {v : Value} {ns : List Np} (h : Nq n w v ns) : ∃ p c, v = .slice p ns.length c ∧ ns.length ≤ c ∧ c ≤ maxLen := by
  obtain ⟨qs, h1, h2, h3⟩ := h
  obtain ⟨p, c, hv, hc, hm⟩ := (h1.sl nd_len).form
  exact ⟨p, c, by rw [hv, ← h3, List.length_map], by rw [← h3, List.length_map]; exact hc, hm⟩
/- The row's block and its nodes. -/
def Nr (n : Nat) (w : World) (g : Nat) (ns : List Np) : Prop := n ≤ g ∧ g < w.heap.size ∧ ∀ k x, ns[k]? = some x → ∃ q : Nd, q.np = x ∧ CellsAt w g (k * 19) q.cells ∧ NdIn n w q
theorem Nq.rows {n : Nat} {w : World} {v : Value} {ns : List Np} (h : Nq n w v ns) (hne : 0 < ns.length) : ∃ g c, v = .slice (some ⟨g, 0, none⟩) ns.length c ∧ ns.length ≤ c ∧ c ≤ maxLen ∧ Nr n w g ns := by
  obtain ⟨qs, h1, h2, h3⟩ := h
  have hl : qs.length = ns.length := by rw [← h3, List.length_map]
  rcases h1.2 with ⟨hv, h0⟩ | ⟨g, cap, cur, hv, hg, hblk, hc, hm, -⟩
  · omega
  · refine ⟨g, cap, by rw [hv, hl], by omega, hm, hg, lt_of_block hblk, fun k x hx => ?_⟩
    rw [← h3, List.getElem?_map] at hx
    cases hq : qs[k]? with
    | none => rw [hq] at hx; cases hx
    | some q =>
      rw [hq] at hx; cases hx
      refine ⟨q, rfl, ?_, h2 q (List.mem_of_getElem? hq)⟩
      have hs := h1.sl nd_len
      rw [hv] at hs
      obtain ⟨b, o, hp, _, hcell⟩ := hs.at hq
      cases hp
      simpa using hcell
theorem Nr.on {n : Nat} {w w' : World} {g : Nat} {ns : List Np} (h : Nr n w g ns) (hb : Below w.heap.size w w') : Nr n w' g ns :=
  ⟨h.1, Nat.lt_of_lt_of_le h.2.1 hb.size, fun k x hx => let ⟨q, h1, h2, h3⟩ := h.2.2 k x hx; ⟨q, h1, h2.kp (T := fun _ => False) (Kp.of hb) id, h3.on hb⟩⟩
theorem Nr.l {n : Nat} {w : World} {g : Nat} {ns : List Np} (h : Nr n w g ns) (k : Nat) {l : List Int} (hk : (ns.map (·.l))[k]? = some l) : ∃ lv, w.cell? ⟨g, k * 19 + 16, none⟩ = some lv ∧ Own int1 1 3 n w lv l := by
  rw [List.getElem?_map] at hk
  cases hx : ns[k]? with
  | none => rw [hx] at hk; cases hk
  | some x =>
    rw [hx] at hk; cases hk
    obtain ⟨q, rfl, h2, h3⟩ := h.2.2 k x hx
    exact ⟨q.lv, h2 16 _ rfl, h3.l⟩
theorem Nr.kind {n : Nat} {w : World} {g : Nat} {ns : List Np} (h : Nr n w g ns) (k : Nat) {x : Int} (hk : (ns.map (·.kind))[k]? = some x) : w.cell? ⟨g, k * 19, none⟩ = some (.int .i64 x) := by
  rw [List.getElem?_map] at hk
  cases hx : ns[k]? with
  | none => rw [hx] at hk; cases hk
  | some y =>
    rw [hx] at hk; cases hk
    obtain ⟨q, rfl, h2, h3⟩ := h.2.2 k y hx
    exact h2 0 _ rfl
theorem Nr.n {n : Nat} {w : World} {g : Nat} {ns : List Np} (h : Nr n w g ns) (k : Nat) {x : Int} (hk : (ns.map (·.n))[k]? = some x) : w.cell? ⟨g, k * 19 + 2, none⟩ = some (.int .i64 x) := by
  rw [List.getElem?_map] at hk
  cases hx : ns[k]? with
  | none => rw [hx] at hk; cases hk
  | some y =>
    rw [hx] at hk; cases hk
    obtain ⟨q, rfl, h2, h3⟩ := h.2.2 k y hx
    exact h2 2 _ rfl
theorem Nr.s {n : Nat} {w : World} {g : Nat} {ns : List Np} (h : Nr n w g ns) (k : Nat) {x : List UInt8} (hk : (ns.map (·.s))[k]? = some x) : w.cell? ⟨g, k * 19 + 1, none⟩ = some (.string (St x)) := by
  rw [List.getElem?_map] at hk
  cases hx : ns[k]? with
  | none => rw [hx] at hk; cases hk
  | some y =>
    rw [hx] at hk; cases hk
    obtain ⟨q, rfl, h2, h3⟩ := h.2.2 k y hx
    exact h2 1 _ rfl
set_option maxRecDepth 100000 in
set_option maxHeartbeats 1000000 in
theorem ints_any {w : World} {Q1 Q2 : Nat → Prop} {a b : Value} {l : List Int} (ha : SlAt Q1 int1 1 w a l) (hb : SlAt Q2 int1 1 w b l) : Calls Tryz.prog 28 #[a, b] w fun e w' => e = .returned (.bool true) ∧ Below w.heap.size w w' := by
  have HA := hid ha
  have HB := hid hb
  obtain ⟨p, c, rfl, hc1, hc2⟩ := ha.form
  obtain ⟨p', c', rfl, hd1, hd2⟩ := hb.form
  unfold maxLen at hc2 hd2
  generalize hn : l.length = n at *
  have HN := hid hn
  clear ha hb hn
  have hnn : ((n : Int) != n) = false := by simp
  go_enter Tryz.func28, Tryz.ntmps28
  go_wp2_with fail
  go_loopw [5] (fun x wr => ∃ k : Nat, k ≤ n ∧ x = .int .i64 k ∧ Hid (Below w.heap.size w wr)) (fun x _ => n - (intOf x).toNat)
  case atStart => exact ⟨0, by omega, rfl, Below.refl _ _⟩
  case round =>
    obtain ⟨k, hk, rfl, HBr⟩ := hrel
    by_cases hlt : k < n
    · obtain ⟨x, hx⟩ : ∃ x, l[k]? = some x := ⟨l[k]'(by rw [HN.out]; omega), List.getElem?_eq_getElem _⟩
      obtain ⟨g, og, rfl, -, h1⟩ := (HA.out.on HBr.out).at hx
      obtain ⟨g', og', rfl, -, h2⟩ := (HB.out.on HBr.out).at hx
      have e1 : wr.cell? ⟨g, og + k, none⟩ = some (.int .i64 x) := by have := h1 0 _ rfl; simpa using this
      have e2 : wr.cell? ⟨g', og' + k, none⟩ = some (.int .i64 x) := by have := h2 0 _ rfl; simpa using this
      have kI : (k : Int) < n := by omega
      have k0 : (0 : Int) ≤ k := by omega
      have hxx : (x != x) = false := by simp
      clear h1 h2 hx
      go_upto_region 6 with fail
      go_quiet (fail)
      go_wp2_with fail
      go_roundw
      case rel => exact ⟨k + 1, by omega, by go_num, below_drewN HBr.out _⟩
      case measure => simp [intOf]; omega
    · have kI : ¬ (k : Int) < n := by omega
      go_wp2_with fail
      go_ret
      exact ⟨rfl, HBr.out⟩
theorem query_is {l : List UInt8} {r : Nat × Int} (h : (queryO l).2 = r) (hl : (l.length : Int) ≤ 140737488355328) (w : World) (hG : Gd w) : Calls Tryz.prog 16 #[.string (St l)] w (WhP w ((queryO l).1, r.1, r.2)) := by
  have := Query_any l hl w hG
  rwa [show queryO l = ((queryO l).1, r.1, r.2) by rw [← h]] at this
theorem lit2 {W : World} (l : List Int) (hl : l.length ≤ 1000) {cs : Array Value} {n : Nat} (hc : cs = (l.flatMap int1).toArray) (hn : n = l.length) : SlAt (fun _ => True) int1 1 (W.alloc (.cells cs 3)) (.slice (some ⟨W.heap.size, 0, none⟩) n n) l := by
  subst hc
  subst hn
  exact ((own_ints W l hl (B := 0) (Nat.zero_le _)).sl (fun _ => rfl)).imp (fun _ _ => trivial)
/- What is read of the two answers. -/
structure Sw (w : World) (b1 b2 g1 g2 c1 c2 : Nat) : Prop where
  x1 : w.heap[b1]? = some (.cells #[.slice (some ⟨g1, 0, none⟩) 8 c1] 27 (0, 0))
  x2 : w.heap[b2]? = some (.cells #[.slice (some ⟨g2, 0, none⟩) 4 c2] 27 (0, 0))
  r1 : Nr 0 w g1 (queryO t1).1
  r2 : Nr 0 w g2 (queryO t2).1
theorem Sw.on {w w' : World} {b1 b2 g1 g2 c1 c2 : Nat} (h : Sw w b1 b2 g1 g2 c1 c2) (hb : Below w.heap.size w w') : Sw w' b1 b2 g1 g2 c1 c2 := ⟨block_on h.x1 hb, block_on h.x2 hb, h.r1.on hb, h.r2.on hb⟩
theorem at_of {ns : List Np} {ls : List (List Int)} (h : ns.map (·.l) = ls) {k : Nat} {l : List Int} (hk : ls[k]? = some l) : (ns.map (·.l))[k]? = some l := by rw [h]; exact hk
theorem len_of {ns : List Np} {ls : List (List Int)} (h : ns.map (·.l) = ls) : ns.length = ls.length := by rw [← h, List.length_map]
theorem Nr.le {n : Nat} {w : World} {g : Nat} {ns : List Np} (h : Nr n w g ns) : Nr 0 w g ns :=
  ⟨Nat.zero_le _, h.2.1, fun k x hx => let ⟨q, h1, h2, h3⟩ := h.2.2 k x hx; ⟨q, h1, h2, h3.le (Nat.zero_le _)⟩⟩
theorem St_eqL (l p : List UInt8) : ((St l).toList == p) = (l == p) := by
  rw [ByteArray.toList_eq, St_toList]
set_option maxRecDepth 100000 in
set_option maxHeartbeats 2000000 in
theorem shown_any (w : World) (hG : Gd w) : Calls Tryz.prog 9 #[] w fun e w' => e = .returned (.bool true) ∧ Below w.heap.size w w' := by
  have q1R := q1_is.1
  have q2R := q2_is.1
  have q3R := q3_is
  have q4R := q4_is
  have q5R := q5_is
  have HG := hid hG
  have L1 := hid (len_of q1_is.2.1)
  have L2 := hid (len_of q2_is.2)
  have M1 : Hid True := trivial
  have M2 : Hid True := trivial
  have M3 : Hid True := trivial
  have M4 : Hid True := trivial
  have M5 : Hid True := trivial
  have N1 : Hid True := trivial
  have N2 : Hid True := trivial
  have N3 : Hid True := trivial
  have N4 : Hid True := trivial
  have N5 : Hid True := trivial
  clear hG q1R q2R q3R q4R q5R
  have HB0 : Hid (Below w.heap.size w w) := Below.refl _ _
  go_enter Tryz.func9, Tryz.ntmps9
  have hsn := St_eqL [110] [110]
  go_upto_region 6 with (first
    | (go_at_call 16; have FIRST := M1; refine (query_is (l := t1) q1_is.1 (by decide) _ HG.out).mono ?_; rintro e w1 ⟨v1, rfl, hn, hb⟩; obtain ⟨g1, c1, rfl, hc1, hc2, hr⟩ := hn.rows (by rw [L1.out]; decide); rw [L1.out]; have HR1 := hid (hr.le.on ((Below.refl _ _).alloc (Nat.le_refl _) (.cells #[.slice (some ⟨g1, 0, none⟩) 8 c1] 27))); have HX1 := hid (alloc_block w1 (.cells #[.slice (some ⟨g1, 0, none⟩) 8 c1] 27)); have HB1 := hid (hb.alloc hb.size (.cells #[.slice (some ⟨g1, 0, none⟩) 8 c1] 27)); rw [L1.out] at hc1; unfold maxLen at hc2; clear hn hr hb FIRST M1)
    | (go_at_call 16; have FIRST := M2; refine (query_is (l := t2) q2_is.1 (by decide) _ (HG.out.next HB1.out)).mono ?_; rintro e w2 ⟨v2, rfl, hn, hb⟩; obtain ⟨g2, c2, rfl, hd1, hd2, hr⟩ := hn.rows (by rw [L2.out]; decide); rw [L2.out]; have HB2 := hid ((HB1.out.trans (hb.mono HB1.out.size)).alloc (Nat.le_trans HB1.out.size hb.size) (.cells #[.slice (some ⟨g2, 0, none⟩) 4 c2] 27)); have HSw : Hid (Sw (w2.alloc (.cells #[.slice (some ⟨g2, 0, none⟩) 4 c2] 27)) w1.heap.size w2.heap.size g1 g2 c1 c2) := (have h9 := hb.alloc hb.size (.cells #[.slice (some ⟨g2, 0, none⟩) 4 c2] 27); ⟨block_on HX1.out h9, alloc_block _ _, HR1.out.on h9, hr.le.on ((Below.refl _ _).alloc (Nat.le_refl _) _)⟩); rw [L2.out] at hd1; unfold maxLen at hd2; clear hn hr hb FIRST M2)
    | (go_at_call 16; have FIRST := M3; refine (query_is (l := t3) q3_is (by decide) _ (HG.out.next HB2.out)).mono ?_; rintro e w3 ⟨v3, rfl, hn, hb⟩; obtain ⟨p3, k3, rfl, -⟩ := hn.len; have HB3 := hid ((HB2.out.trans (hb.mono HB2.out.size)).alloc (Nat.le_trans HB2.out.size hb.size) (.cells #[.slice p3 (queryO t3).1.length k3] 27)); replace HSw := hid (HSw.out.on (hb.alloc hb.size (.cells #[.slice p3 (queryO t3).1.length k3] 27))); generalize (queryO t3).1.length = ln3 at *; clear hn hb FIRST M3)
    | (go_at_call 16; have FIRST := M4; refine (query_is (l := t4) q4_is (by decide) _ (HG.out.next HB3.out)).mono ?_; rintro e w4 ⟨v4, rfl, hn, hb⟩; obtain ⟨p4, k4, rfl, -⟩ := hn.len; have HB4 := hid ((HB3.out.trans (hb.mono HB3.out.size)).alloc (Nat.le_trans HB3.out.size hb.size) (.cells #[.slice p4 (queryO t4).1.length k4] 27)); replace HSw := hid (HSw.out.on (hb.alloc hb.size (.cells #[.slice p4 (queryO t4).1.length k4] 27))); generalize (queryO t4).1.length = ln4 at *; clear hn hb FIRST M4)
    | (go_at_call 16; have FIRST := M5; refine (query_is (l := t5) q5_is (by decide) _ (HG.out.next HB4.out)).mono ?_; rintro e w5 ⟨v5, rfl, hn, hb⟩; obtain ⟨p5, k5, rfl, -⟩ := hn.len; have HB5 := hid ((HB4.out.trans (hb.mono HB4.out.size)).alloc (Nat.le_trans HB4.out.size hb.size) (.cells #[.slice p5 (queryO t5).1.length k5] 27)); replace HSw := hid (HSw.out.on (hb.alloc hb.size (.cells #[.slice p5 (queryO t5).1.length k5] 27))); generalize (queryO t5).1.length = ln5 at *; clear hn hb FIRST M5))
  generalize w5.alloc (.cells #[.slice p5 ln5 k5] 27) = W5 at *
  have y1 := block_cell HSw.out.x1 0; have y2 := block_cell HSw.out.x2 0; obtain ⟨a4, z4, o4⟩ := HSw.out.r1.l 4 (at_of q1_is.2.1 rfl); obtain ⟨a5, z5, o5⟩ := HSw.out.r1.l 5 (at_of q1_is.2.1 rfl); obtain ⟨a6, z6, o6⟩ := HSw.out.r1.l 6 (at_of q1_is.2.1 rfl); obtain ⟨a7, z7, o7⟩ := HSw.out.r1.l 7 (at_of q1_is.2.1 rfl); obtain ⟨b2, u2, o2⟩ := HSw.out.r2.l 2 (at_of q2_is.2 rfl); have O4 := hid (o4.sl (fun _ => rfl)); have O5 := hid (o5.sl (fun _ => rfl)); have O6 := hid (o6.sl (fun _ => rfl)); have O7 := hid (o7.sl (fun _ => rfl)); have O2 := hid (o2.sl (fun _ => rfl)); have z8 := HSw.out.r1.kind 5 (x := 12) (by rw [q1_is.2.2.1]; rfl); have z9 := HSw.out.r1.n 7 (x := 3) (by rw [q1_is.2.2.2.1]; rfl); have z10 := HSw.out.r1.s 7 q1_is.2.2.2.2; simp only [Nat.reduceMul, Nat.reduceAdd] at z4 z5 z6 z7 z8 z9 z10 u2; clear o4 o5 o6 o7 o2
  go_wp2_with (first
    | (go_at_call 28; have FIRST := N1; refine (ints_any (l := [2, 3]) (O4.out.on ((Below.refl _ _).alloc (Nat.le_refl _) _)) (lit2 [2, 3] (by decide) rfl rfl)).mono ?_; rintro e w6 ⟨rfl, hb⟩; replace HSw := hid (HSw.out.on (((Below.refl _ _).alloc (Nat.le_refl _) _).trans (hb.mono (by simp)))); have HB6 := hid (HB5.out.trans ((((Below.refl _ _).alloc (Nat.le_refl _) _).trans (hb.mono (by simp))).mono HB5.out.size)); clear y1 y2 z4 z5 z6 z7 z8 z9 z10 u2 O4 O5 O6 O7 O2; have y1 := block_cell HSw.out.x1 0; have y2 := block_cell HSw.out.x2 0; obtain ⟨a4, z4, o4⟩ := HSw.out.r1.l 4 (at_of q1_is.2.1 rfl); obtain ⟨a5, z5, o5⟩ := HSw.out.r1.l 5 (at_of q1_is.2.1 rfl); obtain ⟨a6, z6, o6⟩ := HSw.out.r1.l 6 (at_of q1_is.2.1 rfl); obtain ⟨a7, z7, o7⟩ := HSw.out.r1.l 7 (at_of q1_is.2.1 rfl); obtain ⟨b2, u2, o2⟩ := HSw.out.r2.l 2 (at_of q2_is.2 rfl); have O4 := hid (o4.sl (fun _ => rfl)); have O5 := hid (o5.sl (fun _ => rfl)); have O6 := hid (o6.sl (fun _ => rfl)); have O7 := hid (o7.sl (fun _ => rfl)); have O2 := hid (o2.sl (fun _ => rfl)); have z8 := HSw.out.r1.kind 5 (x := 12) (by rw [q1_is.2.2.1]; rfl); have z9 := HSw.out.r1.n 7 (x := 3) (by rw [q1_is.2.2.2.1]; rfl); have z10 := HSw.out.r1.s 7 q1_is.2.2.2.2; simp only [Nat.reduceMul, Nat.reduceAdd] at z4 z5 z6 z7 z8 z9 z10 u2; clear o4 o5 o6 o7 o2; clear hb FIRST N1)
    | (go_at_call 28; have FIRST := N2; refine (ints_any (l := [1, 4]) (O5.out.on ((Below.refl _ _).alloc (Nat.le_refl _) _)) (lit2 [1, 4] (by decide) rfl rfl)).mono ?_; rintro e w7 ⟨rfl, hb⟩; replace HSw := hid (HSw.out.on (((Below.refl _ _).alloc (Nat.le_refl _) _).trans (hb.mono (by simp)))); have HB7 := hid (HB6.out.trans ((((Below.refl _ _).alloc (Nat.le_refl _) _).trans (hb.mono (by simp))).mono HB6.out.size)); clear y1 y2 z4 z5 z6 z7 z8 z9 z10 u2 O4 O5 O6 O7 O2; have y1 := block_cell HSw.out.x1 0; have y2 := block_cell HSw.out.x2 0; obtain ⟨a4, z4, o4⟩ := HSw.out.r1.l 4 (at_of q1_is.2.1 rfl); obtain ⟨a5, z5, o5⟩ := HSw.out.r1.l 5 (at_of q1_is.2.1 rfl); obtain ⟨a6, z6, o6⟩ := HSw.out.r1.l 6 (at_of q1_is.2.1 rfl); obtain ⟨a7, z7, o7⟩ := HSw.out.r1.l 7 (at_of q1_is.2.1 rfl); obtain ⟨b2, u2, o2⟩ := HSw.out.r2.l 2 (at_of q2_is.2 rfl); have O4 := hid (o4.sl (fun _ => rfl)); have O5 := hid (o5.sl (fun _ => rfl)); have O6 := hid (o6.sl (fun _ => rfl)); have O7 := hid (o7.sl (fun _ => rfl)); have O2 := hid (o2.sl (fun _ => rfl)); have z8 := HSw.out.r1.kind 5 (x := 12) (by rw [q1_is.2.2.1]; rfl); have z9 := HSw.out.r1.n 7 (x := 3) (by rw [q1_is.2.2.2.1]; rfl); have z10 := HSw.out.r1.s 7 q1_is.2.2.2.2; simp only [Nat.reduceMul, Nat.reduceAdd] at z4 z5 z6 z7 z8 z9 z10 u2; clear o4 o5 o6 o7 o2; clear hb FIRST N2)
    | (go_at_call 28; have FIRST := N3; refine (ints_any (l := [0, 5]) (O6.out.on ((Below.refl _ _).alloc (Nat.le_refl _) _)) (lit2 [0, 5] (by decide) rfl rfl)).mono ?_; rintro e w8 ⟨rfl, hb⟩; replace HSw := hid (HSw.out.on (((Below.refl _ _).alloc (Nat.le_refl _) _).trans (hb.mono (by simp)))); have HB8 := hid (HB7.out.trans ((((Below.refl _ _).alloc (Nat.le_refl _) _).trans (hb.mono (by simp))).mono HB7.out.size)); clear y1 y2 z4 z5 z6 z7 z8 z9 z10 u2 O4 O5 O6 O7 O2; have y1 := block_cell HSw.out.x1 0; have y2 := block_cell HSw.out.x2 0; obtain ⟨a4, z4, o4⟩ := HSw.out.r1.l 4 (at_of q1_is.2.1 rfl); obtain ⟨a5, z5, o5⟩ := HSw.out.r1.l 5 (at_of q1_is.2.1 rfl); obtain ⟨a6, z6, o6⟩ := HSw.out.r1.l 6 (at_of q1_is.2.1 rfl); obtain ⟨a7, z7, o7⟩ := HSw.out.r1.l 7 (at_of q1_is.2.1 rfl); obtain ⟨b2, u2, o2⟩ := HSw.out.r2.l 2 (at_of q2_is.2 rfl); have O4 := hid (o4.sl (fun _ => rfl)); have O5 := hid (o5.sl (fun _ => rfl)); have O6 := hid (o6.sl (fun _ => rfl)); have O7 := hid (o7.sl (fun _ => rfl)); have O2 := hid (o2.sl (fun _ => rfl)); have z8 := HSw.out.r1.kind 5 (x := 12) (by rw [q1_is.2.2.1]; rfl); have z9 := HSw.out.r1.n 7 (x := 3) (by rw [q1_is.2.2.2.1]; rfl); have z10 := HSw.out.r1.s 7 q1_is.2.2.2.2; simp only [Nat.reduceMul, Nat.reduceAdd] at z4 z5 z6 z7 z8 z9 z10 u2; clear o4 o5 o6 o7 o2; clear hb FIRST N3)
    | (go_at_call 28; have FIRST := N4; refine (ints_any (l := [6]) (O7.out.on ((Below.refl _ _).alloc (Nat.le_refl _) _)) (lit2 [6] (by decide) rfl rfl)).mono ?_; rintro e w9 ⟨rfl, hb⟩; replace HSw := hid (HSw.out.on (((Below.refl _ _).alloc (Nat.le_refl _) _).trans (hb.mono (by simp)))); have HB9 := hid (HB8.out.trans ((((Below.refl _ _).alloc (Nat.le_refl _) _).trans (hb.mono (by simp))).mono HB8.out.size)); clear y1 y2 z4 z5 z6 z7 z8 z9 z10 u2 O4 O5 O6 O7 O2; have y1 := block_cell HSw.out.x1 0; have y2 := block_cell HSw.out.x2 0; obtain ⟨a4, z4, o4⟩ := HSw.out.r1.l 4 (at_of q1_is.2.1 rfl); obtain ⟨a5, z5, o5⟩ := HSw.out.r1.l 5 (at_of q1_is.2.1 rfl); obtain ⟨a6, z6, o6⟩ := HSw.out.r1.l 6 (at_of q1_is.2.1 rfl); obtain ⟨a7, z7, o7⟩ := HSw.out.r1.l 7 (at_of q1_is.2.1 rfl); obtain ⟨b2, u2, o2⟩ := HSw.out.r2.l 2 (at_of q2_is.2 rfl); have O4 := hid (o4.sl (fun _ => rfl)); have O5 := hid (o5.sl (fun _ => rfl)); have O6 := hid (o6.sl (fun _ => rfl)); have O7 := hid (o7.sl (fun _ => rfl)); have O2 := hid (o2.sl (fun _ => rfl)); have z8 := HSw.out.r1.kind 5 (x := 12) (by rw [q1_is.2.2.1]; rfl); have z9 := HSw.out.r1.n 7 (x := 3) (by rw [q1_is.2.2.2.1]; rfl); have z10 := HSw.out.r1.s 7 q1_is.2.2.2.2; simp only [Nat.reduceMul, Nat.reduceAdd] at z4 z5 z6 z7 z8 z9 z10 u2; clear o4 o5 o6 o7 o2; clear hb FIRST N4)
    | (go_at_call 28; have FIRST := N5; refine (ints_any (l := [0, 1]) (O2.out.on ((Below.refl _ _).alloc (Nat.le_refl _) _)) (lit2 [0, 1] (by decide) rfl rfl)).mono ?_; rintro e w10 ⟨rfl, hb⟩; replace HSw := hid (HSw.out.on (((Below.refl _ _).alloc (Nat.le_refl _) _).trans (hb.mono (by simp)))); have HB10 := hid (HB9.out.trans ((((Below.refl _ _).alloc (Nat.le_refl _) _).trans (hb.mono (by simp))).mono HB9.out.size)); clear y1 y2 z4 z5 z6 z7 z8 z9 z10 u2 O4 O5 O6 O7 O2; have y1 := block_cell HSw.out.x1 0; have y2 := block_cell HSw.out.x2 0; obtain ⟨a4, z4, o4⟩ := HSw.out.r1.l 4 (at_of q1_is.2.1 rfl); obtain ⟨a5, z5, o5⟩ := HSw.out.r1.l 5 (at_of q1_is.2.1 rfl); obtain ⟨a6, z6, o6⟩ := HSw.out.r1.l 6 (at_of q1_is.2.1 rfl); obtain ⟨a7, z7, o7⟩ := HSw.out.r1.l 7 (at_of q1_is.2.1 rfl); obtain ⟨b2, u2, o2⟩ := HSw.out.r2.l 2 (at_of q2_is.2 rfl); have O4 := hid (o4.sl (fun _ => rfl)); have O5 := hid (o5.sl (fun _ => rfl)); have O6 := hid (o6.sl (fun _ => rfl)); have O7 := hid (o7.sl (fun _ => rfl)); have O2 := hid (o2.sl (fun _ => rfl)); have z8 := HSw.out.r1.kind 5 (x := 12) (by rw [q1_is.2.2.1]; rfl); have z9 := HSw.out.r1.n 7 (x := 3) (by rw [q1_is.2.2.2.1]; rfl); have z10 := HSw.out.r1.s 7 q1_is.2.2.2.2; simp only [Nat.reduceMul, Nat.reduceAdd] at z4 z5 z6 z7 z8 z9 z10 u2; clear o4 o5 o6 o7 o2; clear hb FIRST N5))
  go_ret
  exact ⟨rfl, HB10.out⟩
end Go.Proofs.YtomnjckbgmbgmaaGreatDoor
