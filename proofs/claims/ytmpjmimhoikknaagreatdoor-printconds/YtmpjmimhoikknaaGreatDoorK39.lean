/-
  PrintConds's walk: a condition.
  PrintConds, at any text and any number.
  What the listed variables of the print rows give the walks: the table of signs, print's three tables of words, the powers of ten, and the variable ErrRange.
  A condition of a query that is printed by itself is read as that condition (the Go function catchmentlaw13.PrintConds returns true for every input and changes none). Conditions: the nine variables that the row lists (three tables and two errors of Go's library, the program's own table of signs and its three tables of words) start as the program's text lays them.
-/
import Derived.Test.YtmpjmimhoikknaaGreatDoorCards
import Derived.Test.YtmpjmimhoikknaaGreatDoorTie
import Derived.Test.YtmpjmimhoikknaaGreatDoorRows
import Derived.Test.YtmpjmimhoikknaaGreatDoorK21
import Derived.Test.YtmpjmimhoikknaaGreatDoorK38
import Derived.ProofKit
import Derived.LaidMore
import Derived.OpenShut
import Derived.Stop.Joined
import Derived.Lib.LaidTab
import Derived.SevenTiedAt
namespace Go.Proofs.YtmpjmimhoikknaaGreatDoor
open Go.RowKit Go.Joins Go.Sort Go.Maps Go.Shelf

set_option maxRecDepth 100000 in
set_option maxHeartbeats 4000000 in
/-- PrintConds, at a condition whose text is too long -/
theorem conds_long (l : List UInt8) (i : Nat) (hl : (l.length : Int) ≤ 140737488355328) (he : (queryO l).2.2 = 0) {x : Np} (hx : (queryO l).1[i]? = some x) (hk : 11 ≤ x.kind) (hj : 2048 < (jw none (wd ((queryO l).1.map xN) (i + 1) i)).length) (w : World) (hG : Gq w) : Calls Tryz.prog 5 #[.string (St l), .int .i64 (i : Int)] w fun e w' => e = .returned (.bool true) ∧ Below w.heap.size w w' := by
  have HG := hid hG
  have HS := hid (pshown_any w hG)
  have HR := hid (fun w => RQuery_any l hl w)
  have HC : Hid (∀ (w : World) (v : Value) (n : Nat), Nq n w v (queryO l).1 → Gq w → Calls Tryz.prog 15 #[.agg #[v], .int .i64 (i : Int)] w fun e w' => e = .returned (.tuple #[.string (St []), .int .i64 2]) ∧ Below w.heap.size w w') := fun w v n h hG => Cond_read i he (z := ([], 2)) (fun qs hp hc => by rw [condO_good hp hc hx hk]; unfold textO; rw [if_pos hj]) h hG
  have hne := read_len he
  generalize queryO l = R at *
  obtain ⟨A, pa, ea⟩ := R
  simp only at he hx hne HC
  subst he
  clear hG hj
  have hn := (List.getElem?_eq_some_iff.1 hx).1
  have h1 : (i : Int) < (A.length : Int) := by omega
  have h0 : (0 : Int) ≤ i := by omega
  go_enter Tryz.func5, Tryz.ntmps5
  go_upto_region 6 with (first
    | (go_at_call 11; refine HS.out.mono ?_; rintro e w1 ⟨rfl, hb⟩; have HB1 := hid hb; clear hb)
    | (go_at_call 19; refine (HR.out _).mono ?_; rintro e w2 ⟨va, rfl, hna, hb⟩; obtain ⟨g1, c1, rfl, ca1, ca2, hr⟩ := hna.rows hne.1; have HB2 := hid ((HB1.out.trans (hb.mono HB1.out.size)).alloc (Nat.le_trans HB1.out.size hb.size) (.cells #[.slice (some ⟨g1, 0, none⟩) A.length c1] 24)); have HNA := hid (hna.on ((Below.refl _ _).alloc (Nat.le_refl _) (.cells #[.slice (some ⟨g1, 0, none⟩) A.length c1] 24))); have HNR := hid (hr.le.on ((Below.refl _ _).alloc (Nat.le_refl _) (.cells #[.slice (some ⟨g1, 0, none⟩) A.length c1] 24))); have HXA := hid (alloc_block w2 (.cells #[.slice (some ⟨g1, 0, none⟩) A.length c1] 24)); have y0 := block_cell HXA.out 0; clear hna hb hr)
    | (go_at_call 15; refine (HC.out _ _ _ HNA.out (HG.out.next HB2.out)).mono ?_; rintro e w3 ⟨rfl, hb⟩; have HB3 := hid (HB2.out.trans (hb.mono HB2.out.size)); have y3 := block_cell (block_on HXA.out hb) 0; have HN3 := hid (HNR.out.on hb); clear hb))
  generalize w2.heap.size = bA at *
  unfold maxLen at ca2
  obtain ⟨q, rfl, hcl, -⟩ := HN3.out.2.2 i x hx
  have hc0 : w3.cell? ⟨g1, i * 19, none⟩ = some (.int .i64 q.np.kind) := hcl 0 _ rfl
  clear hcl hx hn
  go_wp2_with fail
  go_ret
  exact ⟨rfl, HB3.out⟩
theorem set16 {q : Nd} {y : Np} {f : Nat} (h : q.np = shN f y) (v : Value) : q.cells.toArray.setIfInBounds 16 v = (⟨y, v, q.nv, q.gv⟩ : Nd).cells.toArray := by
  obtain ⟨n, l, a, b⟩ := q
  cases h
  rfl
/- What is read while the two nodes are held against one another. -/
def S5 (bb bC g2 k : Nat) (v2 : Value) (q1 q2 : Nd) (W : World) : Prop := W.heap[bb]? = some (.cells q1.cells.toArray 44 (0, 0)) ∧ W.cell? ⟨bC, 0, none⟩ = some v2 ∧ W.rangeAt g2 (k * 19) q2.cells
theorem S5.on {bb bC g2 k : Nat} {v2 : Value} {q1 q2 : Nd} {W W' : World} (h : S5 bb bC g2 k v2 q1 q2 W) (hb : Below W.heap.size W W') : S5 bb bC g2 k v2 q1 q2 W' :=
  ⟨block_on h.1 hb, (hb.cell (p := ⟨bC, 0, none⟩) (block_lt_of_cell h.2.1)).trans h.2.1, fun j u hj => (hb.cell (p := ⟨g2, k * 19 + j, none⟩) (block_lt_of_cell (h.2.2 j u hj))).trans (h.2.2 j u hj)⟩
set_option maxRecDepth 100000 in
set_option maxHeartbeats 8000000 in
/-- PrintConds, at a condition -/
theorem conds_good (l : List UInt8) (i : Nat) (hl : (l.length : Int) ≤ 140737488355328) (he : (queryO l).2.2 = 0) {x : Np} (hx : (queryO l).1[i]? = some x) (hk : 11 ≤ x.kind) (hj : (jw none (wd ((queryO l).1.map xN) (i + 1) i)).length ≤ 2048) (w : World) (hG : Gq w) : Calls Tryz.prog 5 #[.string (St l), .int .i64 (i : Int)] w fun e w' => e = .returned (.bool true) ∧ Below w.heap.size w w' := by
  have HG := hid hG
  have HS := hid (pshown_any w hG)
  have HR := hid (fun w => RQuery_any l hl w)
  obtain ⟨s, hs⟩ := read_case he hx hk
  have HC : Hid (∀ (w : World) (v : Value) (n : Nat), Nq n w v (queryO l).1 → Gq w → Calls Tryz.prog 15 #[.agg #[v], .int .i64 (i : Int)] w fun e w' => e = .returned (.tuple #[.string (St (jw none (wq s))), .int .i64 0]) ∧ Below w.heap.size w w') := fun w v n h hG => Cond_read i he (z := (jw none (wq s), 0)) (fun qs hp hc => by rw [condO_good hp hc hx hk]; unfold textO; rw [if_neg (by omega), hs.wd]) h hG
  have hne := read_len he
  rw [hs.wd] at hj
  obtain ⟨us, hu1, hu2⟩ := hs.rd hj
  have HL := hid (fun w => rlex_any (jw none (wq s)) (by omega) w)
  unfold LexP at HL
  rw [hu1] at HL
  have HK : Hid (∀ (w : World) (tv : Value), SlAt (fun b => b < w.heap.size) Tp.cells 4 w tv (us.map tp) → Calls Tryz.prog 22 #[tv] w (WhP w (s, 0, 0))) := fun w tv h => by
    have := RCond_any h
    rwa [hu2] at this
  have HAt := hid hs.at_
  have HLk := hid hs.lk
  have hne2 := hs.ne
  have hle := hs.le
  have hsm := hs.sm
  generalize jw none (wq s) = z at *
  generalize queryO l = R at *
  obtain ⟨A, pa, ea⟩ := R
  simp only at he hx hne HC HL HAt
  subst he
  clear hG hj hs hu1 hu2
  have hn := (List.getElem?_eq_some_iff.1 hx).1
  have h1 : (i : Int) < (A.length : Int) := by omega
  have h0 : (0 : Int) ≤ i := by omega
  go_enter Tryz.func5, Tryz.ntmps5
  go_upto_region 6 with (first
    | (go_at_call 11; refine HS.out.mono ?_; rintro e w1 ⟨rfl, hb⟩; have HB1 := hid hb; clear hb)
    | (go_at_call 19; refine (HR.out _).mono ?_; rintro e w2 ⟨va, rfl, hna, hb⟩; obtain ⟨g1, c1, rfl, ca1, ca2, hr⟩ := hna.rows hne.1; have HB2 := hid ((HB1.out.trans (hb.mono HB1.out.size)).alloc (Nat.le_trans HB1.out.size hb.size) (.cells #[.slice (some ⟨g1, 0, none⟩) A.length c1] 24)); have HNA := hid (hna.on ((Below.refl _ _).alloc (Nat.le_refl _) (.cells #[.slice (some ⟨g1, 0, none⟩) A.length c1] 24))); have HNR := hid (hr.le.on ((Below.refl _ _).alloc (Nat.le_refl _) (.cells #[.slice (some ⟨g1, 0, none⟩) A.length c1] 24))); have HXA := hid (alloc_block w2 (.cells #[.slice (some ⟨g1, 0, none⟩) A.length c1] 24)); have y0 := block_cell HXA.out 0; clear hna hb hr)
    | (go_at_call 15; refine (HC.out _ _ _ HNA.out (HG.out.next HB2.out)).mono ?_; rintro e w3 ⟨rfl, hb⟩; have HB3 := hid (HB2.out.trans (hb.mono HB2.out.size)); have HX3 := hid (block_on HXA.out hb); have y3 := block_cell HX3.out 0; have HN3 := hid (HNR.out.on hb); clear hb))
  generalize w2.heap.size = bA at *
  unfold maxLen at ca2
  obtain ⟨q, rfl, hcl, -⟩ := HN3.out.2.2 i x hx
  have hc0 : w3.cell? ⟨g1, i * 19, none⟩ = some (.int .i64 q.np.kind) := hcl 0 _ rfl
  clear hcl hx hn HNA HXA y0 HNR
  go_upto_region 15 with (first
    | (go_at_call 21; refine (HL.out _).mono ?_; rintro e w4 ⟨tv, rfl, htr, hb⟩; have HB4 := hid hb; have HT4 := hid htr.sl; clear htr hb)
    | (go_at_call 22; refine (HK.out _ _ HT4.out).mono ?_; rintro e w5 ⟨vs, rfl, hns, hb⟩; obtain ⟨g2, c2, rfl, cb1, cb2, hr2⟩ := hns.rows hne2; have HB5 := hid ((HB4.out.trans (hb.mono HB4.out.size)).alloc (Nat.le_trans HB4.out.size hb.size) (.cells #[.slice (some ⟨g2, 0, none⟩) s.length c2] 24)); have HN5 := hid (hr2.le.on ((Below.refl _ _).alloc (Nat.le_refl _) (.cells #[.slice (some ⟨g2, 0, none⟩) s.length c2] 24))); have HX5 := hid (alloc_block w5 (.cells #[.slice (some ⟨g2, 0, none⟩) s.length c2] 24)); clear hns hb hr2))
  generalize w5.alloc (.cells #[.slice (some ⟨g2, 0, none⟩) s.length c2] 24) = W at *
  generalize w5.heap.size = bC at *
  have HN1 := hid (HN3.out.on HB5.out)
  have HX1 := hid (block_on HX3.out HB5.out)
  have HBW : Hid (Below w.heap.size w W) := HB3.out.trans (HB5.out.mono HB3.out.size)
  have e1 := block_cell HX5.out 0
  have e2 := block_cell HX1.out 0
  unfold maxLen at cb2
  obtain ⟨f, hf⟩ : ∃ f, f = i + 1 - s.length := ⟨_, rfl⟩
  rw [← hf] at HAt
  have hfi : (i : Int) + 1 - (s.length : Int) = (f : Int) := by omega
  have hgt : ¬ (i : Int) + 1 < (s.length : Int) := by omega
  have iI : (i : Int) ≤ 128 := by omega
  have fI : (f : Int) ≤ 128 := by omega
  have f0 : (0 : Int) ≤ f := by omega
  clear HN3 HX3 y3 hc0 HB5 HB3 HT4 HK HL HR HC HS HG
  go_upto_region 18 with fail
  go_wp2_with fail
  clear e1 e2
  rw [← hf]
  go_loopw [19] (fun x wr => ∃ k : Nat, k ≤ s.length ∧ x = .int .i64 k ∧ Hid (Below W.heap.size W wr)) (fun x _ => s.length - (intOf x).toNat)
  case atStart => exact ⟨0, by omega, rfl, Below.refl _ _⟩
  case round =>
    obtain ⟨k, hk', rfl, HBr⟩ := hrel
    have e1 := block_cell (block_on HX5.out HBr.out) 0
    have e2 := block_cell (block_on HX1.out HBr.out) 0
    by_cases hlt : k < s.length
    · have kI : (k : Int) < s.length := by omega
      have k0 : (0 : Int) ≤ k := by omega
      obtain ⟨y, hy⟩ : ∃ y, s[k]? = some y := ⟨_, List.getElem?_eq_getElem hlt⟩
      obtain ⟨q1, hq1, hc1', hi1⟩ := (HN1.out.on HBr.out).2.2 (f + k) _ (HAt.out k y hy)
      obtain ⟨q2, hq2, hc2', hi2⟩ := (HN5.out.on HBr.out).2.2 k _ hy
      have hfk : (f : Int) + (k : Int) = ((f + k : Nat) : Int) := by omega
      have fk1 : ((f + k : Nat) : Int) < A.length := by omega
      have fk0 : (0 : Int) ≤ ((f + k : Nat) : Int) := by omega
      have HC1 : Hid (wr.rangeAt g1 ((f + k) * 19) q1.cells) := hc1'
      have HC2 : Hid (wr.rangeAt g2 (k * 19) q2.cells) := hc2'
      have HI1 := hid hi1
      have HI2 := hid hi2
      have HQ1 := hid hq1
      have HQ2 := hid hq2
      clear hc1' hc2' hi1 hi2 hq1 hq2
      go_upto_region 24 with (first
        | (refine wpList_load_mid rfl 44 _ rfl g1 ((f + k) * 19) (by simp [Act.eval]) q1.cells _ HC1.out Tryz.underlying44 rfl size_node ?_)
        | (refine store_nd (q := q1) rfl _ _ rfl rfl rfl (all_oneCell_toArray HI1.out.one) (alloc_block wr _) rfl ?_; intro w6 h6 k6; have H6 := hid h6; have K6 := hid k6; clear h6 k6))
      have HB6 : Hid (Below wr.heap.size wr w6) := ((Below.refl _ _).alloc (Nat.le_refl _) (.cells zNd 44)).trans (K6.out.below (by simp) (fun k e => by omega))
      have HI6 := hid (HI1.out.on HB6.out)
      have HI26 := hid (HI2.out.on HB6.out)
      have HLy := hid (HLk.out k y hy)
      obtain ⟨pl, cl, hpl⟩ := HI6.out.l.form
      have HC26 : Hid (w6.rangeAt g2 (k * 19) q2.cells) := fun j u hj => (HB6.out.cell (p := ⟨g2, k * 19 + j, none⟩) (block_lt_of_cell (HC2.out j u hj))).trans (HC2.out j u hj)
      have HX6 := hid (block_on (block_on HX5.out HBr.out) HB6.out)
      have hbb := HBr.out.size
      have hbl := lt_of_block H6.out
      generalize wr.heap.size = bb at *
      clear e1 e2
      have hql : q1.np.l = y.l.map (· + (f : Int)) := by rw [HQ1.out]; rfl
      rw [hql, List.length_map] at hpl
      have HLv := hid hpl
      have HSl : Hid (SlAt (fun b => 0 ≤ b ∧ b < w6.heap.size) int1 1 w6 q1.lv (y.l.map (· + (f : Int)))) := by have := HI6.out.l.sl (fun _ => rfl); rw [hql] at this; exact this
      rw [hpl] at HSl
      clear hpl hql
      have yI : (y.l.length : Int) ≤ 2 := by have := HLy.out.1; omega
      go_loopw [21, 22] (fun v x wi => ∃ m : Nat, m ≤ y.l.length ∧ x = .int .i64 m ∧ Hid (Own int1 1 3 w6.heap.size wi v (y.l.take m)) ∧ Hid (Below w6.heap.size w6 wi)) (fun _ x _ => y.l.length - (intOf x).toNat)
      case atStart => exact ⟨0, by omega, rfl, Own.blk (enc := int1) (k := 1) (e := 3) (B := w6.heap.size) (w := w6.alloc (.cells #[] 3)) (xs := []) (fun _ => rfl) (Nat.le_refl _) (alloc_block w6 _) (by unfold maxLen; simp), (Below.refl _ _).alloc (Nat.le_refl _) _⟩
      case round =>
        obtain ⟨m, hm, rfl, HOi, HBi⟩ := hrel
        have e16 := block_cell (block_on H6.out HBi.out) 16
        have e16' : (q1.cells.toArray)[16]? = some q1.lv := rfl
        rw [e16', HLv.out] at e16
        clear e16'
        obtain ⟨pv, cv, rfl⟩ := HOi.out.form
        by_cases hml : m < y.l.length
        · obtain ⟨e, he⟩ : ∃ e, y.l[m]? = some e := ⟨_, List.getElem?_eq_getElem hml⟩
          obtain ⟨b, o, hpe, -, hce⟩ := (HSl.out.on HBi.out).at (j := m) (x := e + (f : Int)) (by rw [List.getElem?_map, he]; rfl)
          subst hpe
          have ce : wr.cell? ⟨b, o + m, none⟩ = some (.int .i64 (e + (f : Int))) := by have := hce 0 _ rfl; rwa [Nat.mul_one] at this
          have eI := HLy.out.2 e (List.mem_of_getElem? he)
          have hef : e + (f : Int) - (f : Int) = e := by omega
          have mI : (m : Int) < y.l.length := by omega
          have m0 : (0 : Int) ≤ m := by omega
          have HT : Hid (y.l.take (m + 1) = y.l.take m ++ [e]) := by show _ = _; rw [List.take_add_one, he]; rfl
          clear hce he
          go_wp2_with (at_builtin; refine app_N (ys := [e]) elem_int (fun _ => rfl) (by intro y _ c hc; simp at hc; subst hc; rfl) rfl _ _ rfl rfl (HOi.out.on ((Below.refl _ _).alloc (Nat.le_refl _) (.cells #[.int .i64 e] 3))) rfl (Own.sl (Own.blk (enc := int1) (k := 1) (e := 3) (B := wr.heap.size) (w := wr.alloc (.cells #[.int .i64 e] 3)) (xs := [e]) (fun _ => rfl) (Nat.le_refl _) (alloc_block wr _) (by unfold maxLen; simp)) (fun _ => rfl)) (by simp) (by simp; omega) (by decide) (by have := HBi.out.size; simp; omega) ?_; intro v5 w7 ho hg; have HO7 := hid ho; have HB7 : Hid (Below w6.heap.size w6 w7) := ((HBi.out.alloc HBi.out.size (.cells #[.int .i64 e] 3)).trans (Kp.below (Kp.grown hg (fun k e => (HOi.out.at e).1)) (by have := HBi.out.size; simp; omega) (fun k h => h))); clear ho hg)
          go_roundw
          case rel => exact ⟨m + 1, by omega, by go_num, by rw [HT.out]; exact HO7.out, HB7.out⟩
          case measure => simp [intOf]; omega
        · have mI : ¬ (m : Int) < y.l.length := by omega
          have hmt : y.l.take m = y.l := List.take_of_length_le (by omega)
          rw [hmt] at HOi
          have fz := block_frozen (block_on H6.out HBi.out) 16
          have hkp : Kp (fun k => k = bb) wr (wr.setCell ⟨bb, 16, none⟩ (.slice pv y.l.length cv)) := Kp.set (T := fun k => k = bb) rfl _
          have htk : TK wr (fun k => k = bb) := by
            rintro j rfl c t fz hc
            rw [block_on H6.out HBi.out] at hc; cases hc; decide
          obtain ⟨q3, hq3⟩ : ∃ q3 : Nd, q3 = ⟨y, .slice pv y.l.length cv, q1.nv, q1.gv⟩ := ⟨_, rfl⟩
          have HQ3 : Hid (q3.np = q2.np) := by rw [hq3, HQ2.out]; rfl
          have hb3 := block_set (block_on H6.out HBi.out) 16 (.slice pv y.l.length cv)
          rw [set16 HQ1.out, ← hq3] at hb3
          have HI3 : Hid (NdIn 0 (wr.setCell ⟨bb, 16, none⟩ (.slice pv y.l.length cv)) q3) := by
            have h1 := HI6.out.on HBi.out
            have h2 : NdIn 0 wr q3 := by rw [hq3]; exact ⟨HOi.out.le (Nat.zero_le _), by have := h1.n; rw [HQ1.out] at this; exact this, by have := h1.g; rw [HQ1.out] at this; exact this⟩
            exact h2.kp hkp htk
          have HI23 : Hid (NdIn 0 (wr.setCell ⟨bb, 16, none⟩ (.slice pv y.l.length cv)) q2) := (HI26.out.on HBi.out).kp hkp htk
          have hg2 := HN5.out.2.1
          have hbc := lt_of_block HX5.out
          have hS0 : S5 bb bC g2 k (.slice (some ⟨g2, 0, none⟩) s.length c2) q3 q2 (wr.setCell ⟨bb, 16, none⟩ (.slice pv y.l.length cv)) := by
            refine ⟨hb3, ?_, ?_⟩
            · exact block_cell (hkp.blk (block_on HX6.out HBi.out) (by omega)) 0
            · have h1 : CellsAt w6 g2 (k * 19) q2.cells := HC26.out
              exact (h1.kp (T := fun _ => False) (Kp.of HBi.out) id).kp hkp (by omega)
          have HB8 : Hid (Below W.heap.size W (wr.setCell ⟨bb, 16, none⟩ (.slice pv y.l.length cv))) := by
            exact HBr.out.trans ((HB6.out.trans ((HBi.out.mono (by omega)).trans (hkp.below (by have := HBi.out.size; omega) (fun k e => by omega)))).mono hbb)
          clear hq3 hb3 htk
          go_upto_region 28 with fail
          generalize wr.setCell ⟨bb, 16, none⟩ (.slice pv y.l.length cv) = w8 at *
          refine wp_region_held_drew (S := S5 bb bC g2 k (.slice (some ⟨g2, 0, none⟩) s.length c2) q3 q2) (by kernel_rfl) hS0 (fun hT => ?_)
          refine wpAnyH_take (i := 0) (v := .agg q3.cells.toArray) rfl (by kernel_rfl) (by kernel_rfl) (by kernel_rfl) (fun _ _ _ h => h) (yieldsIf_load_mid (by rfl) 44 (.tmp 20) rfl bb 0 rfl q3.cells _ (fun _ h => s6_range h.1) Tryz.underlying44 rfl size_node) hT ?_
          try simp only [Act.put, List.getElem_toArray, List.getElem_cons_zero, List.setIfInBounds_toArray, List.set_cons_succ, List.set_cons_zero]
          refine wpAnyH_take (i := 1) (v := ?_) rfl (by kernel_rfl) (by kernel_rfl) (by kernel_rfl) (fun _ _ _ h => h) (Or.inl ⟨by rfl, ?_⟩) hT ?_
          rotate_left
          · intro w' hSw
            obtain ⟨-, s2, -⟩ := hSw
            go_simp
            try (with_reducible rfl)
          try simp only [Act.put, List.getElem_toArray, List.getElem_cons_zero, List.getElem_cons_succ, List.setIfInBounds_toArray, List.set_cons_succ, List.set_cons_zero]
          refine wpAnyH_take (i := 2) (v := ?_) rfl (by kernel_rfl) (by kernel_rfl) (by kernel_rfl) (fun _ _ _ h => h) (Or.inl ⟨by rfl, ?_⟩) hT ?_
          rotate_left
          · intro w' hSw
            obtain ⟨-, s2, -⟩ := hSw
            go_simp
            try (with_reducible rfl)
          try simp only [Act.put, List.getElem_toArray, List.getElem_cons_zero, List.getElem_cons_succ, List.setIfInBounds_toArray, List.set_cons_succ, List.set_cons_zero]
          refine wpAnyH_take (i := 3) (v := ?_) rfl (by kernel_rfl) (by kernel_rfl) (by kernel_rfl) (fun _ _ _ h => h) (Or.inl ⟨by rfl, ?_⟩) hT ?_
          rotate_left
          · intro w' hSw
            obtain ⟨-, s2, -⟩ := hSw
            go_simp
            try (with_reducible rfl)
          try simp only [Act.put, List.getElem_toArray, List.getElem_cons_zero, List.getElem_cons_succ, List.setIfInBounds_toArray, List.set_cons_succ, List.set_cons_zero]
          refine wpAnyH_take (i := 4) (v := ?_) rfl (by kernel_rfl) (by kernel_rfl) (by kernel_rfl) (fun _ _ _ h => h) (Or.inl ⟨by rfl, ?_⟩) hT ?_
          rotate_left
          · intro w' hSw
            obtain ⟨-, s2, -⟩ := hSw
            go_simp
            try (with_reducible rfl)
          try simp only [Act.put, List.getElem_toArray, List.getElem_cons_zero, List.getElem_cons_succ, List.setIfInBounds_toArray, List.set_cons_succ, List.set_cons_zero]
          refine wpAnyH_take (i := 5) (v := .agg q2.cells.toArray) rfl (by kernel_rfl) (by kernel_rfl) (by kernel_rfl) (fun _ _ _ h => h) (yieldsIf_load_mid (by rfl) 44 (.tmp 141) rfl g2 (k * 19) rfl q2.cells _ (fun _ h => h.2.2) Tryz.underlying44 rfl size_node) hT ?_
          try simp only [Act.put, List.getElem_toArray, List.getElem_cons_zero, List.getElem_cons_succ, List.setIfInBounds_toArray, List.set_cons_succ, List.set_cons_zero]
          refine wpAnyH_ready (rs := [6]) (by kernel_rfl) (by simp) ?_
          refine AllReadyH.cons rfl (fun K hK => ?_) AllReadyH.nil
          refine step_call2 (v := .agg q3.cells.toArray) (v2 := .agg q2.cells.toArray) rfl (.tmp 137) (.tmp 142) 44 44 rfl (by simp [Act.eval]) (by simp [Act.eval]) enters_sn ?_
          refine (sameNode_any (w := w8.drew) (HI3.out.on (Below.refl _ _).drew) (HI23.out.on (Below.refl _ _).drew) HQ3.out).mono ?_
          rintro e w9 ⟨rfl, hb2⟩
          refine ⟨_, rfl, ?_⟩
          have HB9 : Hid (Below W.heap.size W w9) := HB8.out.trans (((Below.refl _ w8).drew.trans hb2).mono HB8.out.size)
          refine hK.out _ _ (hS0.on ((Below.refl _ _).drew.trans hb2)) (fun hT => ?_)
          clear hK
          try simp only [Act.put, List.getElem_toArray, List.getElem_cons_zero, List.getElem_cons_succ, List.setIfInBounds_toArray, List.set_cons_succ, List.set_cons_zero]
          refine wpAnyH_take (i := 7) (v := ?_) rfl (by kernel_rfl) (by kernel_rfl) (by kernel_rfl) (fun _ _ _ h => h) (Or.inl ⟨by rfl, ?_⟩) hT ?_
          rotate_left
          · intro w' hSw
            skip
            go_simp
            try (with_reducible rfl)
          try simp only [Act.put, List.getElem_toArray, List.getElem_cons_zero, List.getElem_cons_succ, List.setIfInBounds_toArray, List.set_cons_succ, List.set_cons_zero]
          refine wpAnyH_done (by kernel_rfl) ?_ _
          clear hT hS0 hb2
          go_wp2_with fail
          go_roundw
          case rel => first | exact ⟨k + 1, by omega, by go_num, HB9.out⟩ | exact ⟨k + 1, by omega, by go_num⟩ | exact ⟨k + 1, by omega, rfl⟩
          case measure => simp [intOf]; omega
    · have kI : ¬ (k : Int) < s.length := by omega
      go_wp2_with fail
      go_ret
      exact ⟨rfl, HBW.out.trans (HBr.out.mono HBW.out.size)⟩
end Go.Proofs.YtmpjmimhoikknaaGreatDoor
namespace Go.Proofs.YtmpjmimhoikknaaGreatDoor
open Go.RowKit Go.Joins

theorem conds_any (l : List UInt8) (i : Int) (hl : (l.length : Int) ≤ 140737488355328) (w : World) (hG : Gq w) : Calls Tryz.prog 5 #[.string (St l), .int .i64 i] w fun e w' => e = .returned (.bool true) ∧ Below w.heap.size w w' := by
  by_cases he : (queryO l).2.2 = 0
  · by_cases hb : i < 0 ∨ ((queryO l).1.length : Int) ≤ i ∨ ∃ x, (queryO l).1[i.toNat]? = some x ∧ x.kind < 11
    · exact conds_bad l i hl he hb w hG
    · obtain ⟨n, rfl⟩ : ∃ n : Nat, i = n := ⟨i.toNat, by omega⟩
      have hn : n < (queryO l).1.length := by omega
      have hx := List.getElem?_eq_getElem hn
      have hk : 11 ≤ ((queryO l).1[n]).kind := by
        apply Classical.byContradiction
        intro hc
        exact hb (.inr (.inr ⟨_, hx, by omega⟩))
      by_cases hj : 2048 < (jw none (wd ((queryO l).1.map xN) (n + 1) n)).length
      · exact conds_long l n hl he hx hk hj w hG
      · exact conds_good l n hl he hx hk (by omega) w hG
  · exact conds_unread l i hl he w hG
end Go.Proofs.YtmpjmimhoikknaaGreatDoor
namespace Go.Proofs.YtmpjmimhoikknaaGreatDoor
open Go.ChangeShapes Go.WideShapes Go.ChangeAt Go.WideMaps Go.WideElems Go.RowKit

theorem own : ownKnob Tryz.prog.godebug = none := by kernel_rfl
theorem laidOut : laidOutB Tryz.prog = true := by kernel_rfl
abbrev laid9 : List (String × DataW Unit) := [("math/bits.deBruijn32tab", Rows.laid_math_bits_deBruijn32tab), ("math/bits.deBruijn64tab", Rows.laid_math_bits_deBruijn64tab), ("internal/strconv.uint64pow10", Rows.laid_internal_strconv_uint64pow10), ("strconv.ErrRange", Rows.laid_strconv_ErrRange), ("strconv.ErrSyntax", Rows.laid_strconv_ErrSyntax), ("catchment/lex.signs", Rows.laid_catchment_lex_signs), ("catchment/print.kindWords", Rows.laid_catchment_print_kindWords), ("catchment/print.howWords", Rows.laid_catchment_print_howWords), ("catchment/print.aggWords", Rows.laid_catchment_print_aggWords)]
theorem gTab : Tryz.prog.globalNamed "math/bits.deBruijn64tab" = some 8 := by kernel_rfl
theorem gErr : Tryz.prog.globalNamed "strconv.ErrRange" = some 6 := by kernel_rfl
theorem tErr : (Tryz.prog.globals[6]?).map (·.type) = some 196 := by kernel_rfl
theorem gSig : Tryz.prog.globalNamed "catchment/lex.signs" = some 2 := by kernel_rfl
theorem tSig : (Tryz.prog.globals[2]?).map (·.type) = some 199 := by kernel_rfl
theorem gKnd : Tryz.prog.globalNamed "catchment/print.kindWords" = some 0 := by kernel_rfl
theorem tKnd : (Tryz.prog.globals[0]?).map (·.type) = some 168 := by kernel_rfl
theorem gHow : Tryz.prog.globalNamed "catchment/print.howWords" = some 1 := by kernel_rfl
theorem tHow : (Tryz.prog.globals[1]?).map (·.type) = some 189 := by kernel_rfl
theorem gAgg : Tryz.prog.globalNamed "catchment/print.aggWords" = some 3 := by kernel_rfl
theorem tAgg : (Tryz.prog.globals[3]?).map (·.type) = some 189 := by kernel_rfl
theorem gPow : Tryz.prog.globalNamed "internal/strconv.uint64pow10" = some 4 := by kernel_rfl
theorem tPow : (Tryz.prog.globals[4]?).map (·.type) = some 233 := by kernel_rfl
theorem cells9 : Tryz.prog.cellsOf 9 = 1 := by kernel_rfl
theorem cellsU : Tryz.prog.cellsOf 218 = 1 := by kernel_rfl
theorem cellsP : Tryz.prog.cellsOf 233 = 20 := by kernel_rfl
theorem door_met (os : Os) (args : Array Value) : laidMetH Tryz.prog laid9 ((World.doorLaid Tryz.prog 244 os).forCall (fun _ _ => 0) ⟨#[], args, []⟩).memory :=
  laidMetH_of_parts3 (fuel := 8) (laidMet_of_run' 8 (by kernel_rfl) (by kernel_rfl)) (by kernel_rfl) (by kernel_rfl)
theorem drop_take_one {α : Type} {l : List α} {i : Nat} (h : i < l.length) : (l.drop (i * 1)).take 1 = [l[i]] := by
  rw [Nat.mul_one, List.drop_eq_getElem_cons h, List.take_succ_cons, List.take_zero]
/- An array of texts. -/
theorem strs_cells {m n t : Nat} {W : World} {cs : List Value} {p : List MemPlace} {base : Nat} {sp : Nat → Bool} {held : Bool} {enc : TypeId × Value → Unit} {L : List (List UInt8)} {d : DataW Unit} (hU : Tryz.prog.underlying t = some (.array n 9)) (hc : Tryz.prog.cellsOf t = n) (hd : d = .agg (L.map fun s => .lit (.string s))) (h : DataW.trod enc Tryz.prog W base sp held m t cs = some (d, p)) :
    cs = L.map (fun s => Value.string (St s)) := by
  obtain ⟨xs, m1, hx0, hx1, hlen, hn, hel⟩ := DataW.trod_array hU h
  rw [hc] at hlen
  rw [cells9] at hel
  rw [hd, Prod.mk.injEq, DataW.agg.injEq] at hx1
  have hL : L.length = n := by have := congrArg List.length hx1.1; simpa [hn] using this
  apply List.ext_getElem?
  intro i
  by_cases hi : i < n
  · have h1 := hel i hi
    rw [drop_take_one (show i < cs.length by omega), List.getElem?_eq_getElem (show i < xs.length by omega)] at h1
    obtain ⟨s, e, f, -⟩ := DataW.trod_string Tryz.underlying9 h1
    have h2 : (L.map (fun s => (DataW.lit (.string s) : DataW Unit)))[i]? = (xs.map (·.1))[i]? := by rw [hx1.1]
    rw [List.getElem?_map, List.getElem?_map, List.getElem?_eq_getElem (show i < L.length by omega), List.getElem?_eq_getElem (show i < xs.length by omega), f] at h2
    simp only [Option.map_some, Option.some.injEq, DataW.lit.injEq, Lit.string.injEq] at h2
    rw [List.getElem?_eq_getElem (show i < cs.length by omega), List.getElem?_map, List.getElem?_eq_getElem (show i < L.length by omega), h2]
    simp only [List.cons.injEq, and_true] at e
    rw [e]
    simp only [Option.map_some]
    rw [St_of s]
  · rw [List.getElem?_eq_none (by omega), List.getElem?_eq_none (by rw [List.length_map]; omega)]
theorem var_lt {W : World} {nm : String} {g : Nat} {cs : Array Value} (hg : Tryz.prog.globalNamed nm = some g) (h : W.var? Tryz.prog nm = some cs) : g < W.heap.size := by
  simp only [World.var?, hg, Option.bind_some] at h
  split at h
  · rename_i heq
    exact lt_of_block heq
  · cases h
theorem gq_of_laid {W : World} (h : laidMetH Tryz.prog laid9 W) : Gq W := by
  rw [MakeChecks.laidMetH_plain _ _ _ (by kernel_rfl)] at h
  obtain ⟨ps, ⟨g0, t0, cs0, f0, p0, q0, hg0, ht0, hv0, hd0, ⟨g1, t1, cs1, f1, p1, q1, hg1, ht1, hv1, hd1, ⟨g2, t2, cs2, f2, p2, q2, hg2, ht2, hv2, hd2, ⟨g3, t3, cs3, f3, p3, q3, hg3, ht3, hv3, hd3, ⟨g4, t4, cs4, f4, p4, q4, hg4, ht4, hv4, hd4, ⟨g5, t5, cs5, f5, p5, q5, hg5, ht5, hv5, hd5, ⟨g6, t6, cs6, f6, p6, q6, hg6, ht6, hv6, hd6, ⟨g7, t7, cs7, f7, p7, q7, hg7, ht7, hv7, hd7, ⟨g8, t8, cs8, f8, p8, q8, hg8, ht8, hv8, hd8, _, _⟩, _⟩, _⟩, _⟩, _⟩, _⟩, _⟩, _⟩, _⟩, _, _⟩ := h
  obtain rfl := Option.some.inj (gErr.symm.trans hg3)
  obtain rfl := Option.some.inj (tErr.symm.trans ht3)
  obtain rfl := Option.some.inj (gSig.symm.trans hg5)
  obtain rfl := Option.some.inj (tSig.symm.trans ht5)
  obtain rfl := Option.some.inj (gKnd.symm.trans hg6)
  obtain rfl := Option.some.inj (tKnd.symm.trans ht6)
  obtain rfl := Option.some.inj (gHow.symm.trans hg7)
  obtain rfl := Option.some.inj (tHow.symm.trans ht7)
  obtain rfl := Option.some.inj (gAgg.symm.trans hg8)
  obtain rfl := Option.some.inj (tAgg.symm.trans ht8)
  obtain rfl := Option.some.inj (gPow.symm.trans hg2)
  obtain rfl := Option.some.inj (tPow.symm.trans ht2)
  have c5 := strs_cells (L := signsL) Tryz.underlying199 (by kernel_rfl) rfl hd5
  have c6 := strs_cells (L := kindL) Tryz.underlying168 (by kernel_rfl) rfl hd6
  have c7 := strs_cells (L := howL) Tryz.underlying189 (by kernel_rfl) rfl hd7
  have c8 := strs_cells (L := aggL) Tryz.underlying189 (by kernel_rfl) rfl hd8
  have hN : 9 ≤ W.heap.size := by have := var_lt gTab hv1; omega
  have key : ∀ {nm : String} {g : Nat} {cs : Array Value} {L : List (List UInt8)} (_ : Tryz.prog.globalNamed nm = some g) (_ : W.var? Tryz.prog nm = some cs) (_ : cs.toList = L.map (fun s => Value.string (St s))) (i : Nat), i < L.length → W.cell? ⟨g, i, none⟩ = some (.string (St (L.getD i []))) := by
    intro nm g cs L hg hv hcs i hi
    rw [World.var?_cell hg hv i, ← Array.getElem?_toList, hcs, List.getElem?_map, List.getD_eq_getElem?_getD, List.getElem?_eq_getElem hi]
    rfl
  refine ⟨⟨⟨⟨by omega, fun i hi => key gSig hv5 c5 i hi⟩, hN, ?_⟩, fun i hi => key gHow hv7 c7 i hi, fun i hi => key gAgg hv8 c8 i hi, fun i hi => key gKnd hv6 c6 i hi⟩, ?_⟩
  · obtain ⟨m, u, v, hcs3, -, -⟩ := iface_of_trod Tryz.underlying196 hd3
    refine ⟨.iface u v, ?_, .inr ⟨u, v, rfl⟩⟩
    rw [World.var?_cell gErr hv3 0, ← Array.getElem?_toList, hcs3]; rfl
  · have ht : Lib.TabIs Tryz.prog W "internal/strconv.uint64pow10" .u64 Lib.pow10Tab := by
      unfold Lib.TabIs
      rw [hv2, ← Lib.cells_of_tab Tryz.underlying233 Tryz.underlying218 cellsU cellsP hd2]
    intro w' hb
    unfold Lib.TabIs at ht ⊢
    rw [← ht]
    simp only [World.var?, gPow, Option.bind_some]
    rw [hb.block _ (show 4 < 9 by decide)]
def Ok64 (n : Int) : Prop := -9223372036854775808 ≤ n ∧ n ≤ 9223372036854775807
theorem ok64_of {n : Int} (h : (Lit.int .i64 n).wf = true) : Ok64 n := by
  have e1 : IntKind.i64.min = -9223372036854775808 := rfl
  have e2 : IntKind.i64.max = 9223372036854775807 := rfl
  simp [Lit.wf, e1, e2] at h
  exact h
end Go.Proofs.YtmpjmimhoikknaaGreatDoor
namespace Go.Proofs.YtmpjmimhoikknaaGreatDoor
open Go.ChangeShapes Go.WideShapes Go.ChangeAt Go.WideMaps Go.WideElems Go.RowKit
open Go.ChangeMaps (open_string shut_string)

set_option maxRecDepth 100000 in
theorem printConds_lifted (os : Os) (started : os.Started) (H : Type) (enc : TypeId × Value → H) :
    ReturnsInHanded {} Tryz.checked os 5 .any (fun w args => (Rows.printCondsSpec.pre enc Tryz.prog Tryz.f5 [] false w args ∧ laidMetH Tryz.prog laid9 w) ∧ sizedMet enc Tryz.prog Tryz.f5 (OpenSpec.ofChange Rows.printCondsSpec) false w args)
      (Rows.printCondsSpec.post enc Tryz.prog Tryz.f5 false true false false) := by
  refine returnsInHanded_of_change_and (C := Tryz.checked) (X := fun w _ => laidMetH Tryz.prog laid9 w) (fun _ _ _ hh h => h.of_heap hh) own started (by kernel_rfl) Tryz.func5
    (ChangeSpec.witness_shaped (enc := enc) (C := Tryz.checked) (os := os) (X := fun w _ => laidMetH Tryz.prog laid9 w) false (World.doorLaid Tryz.prog 244 os) #[.string ⟨#[]⟩, .int .i64 0] 8 rfl (World.shaped_of_RefB (by kernel_rfl) (by kernel_rfl)) (by kernel_rfl) (by kernel_rfl) (by kernel_rfl) (door_met os _)) ?_
  intro W base args ds gs before hval0 hW _ hsz0 hL _
  have hval : ∀ (j : Nat) t v, Tryz.f5.params[j]? = some t → args[j]? = some v → Value.okWide Tryz.prog W .any base t v := hval0
  have hW' := hW
  obtain ⟨p, q, hA0, hV, rfl, hfz, hnd⟩ := hW
  have hA : DataW.TrodAll enc Tryz.prog W 0 (fun _ => true) true Tryz.f5.params.toList args.toList ds p := hA0
  rw [Tryz.params5] at hA hval
  obtain ⟨v0, vs0, d0, ds0, p0, q0, hargs, rfl, rfl, h0, r0⟩ := trodAll_cons hA
  obtain ⟨v1, vs1, d1, ds1, p1, q1, ha1, rfl, rfl, h1, r1⟩ := trodAll_cons r0
  subst ha1
  obtain ⟨rfl, rfl, rfl⟩ := trodAll_nil r1
  obtain rfl : args = #[v0, v1] := by cases args; simp_all
  obtain ⟨rfl, rfl⟩ := trodVars_none hV
  have k0 := h0
  have lt0 : ∀ x ∈ p0, x.block < W.heap.size := by obtain ⟨m, hm⟩ := k0; exact DataW.trod_lt m _ _ _ hm
  have k1 := h1
  have lt1 : ∀ x ∈ p1, x.block < W.heap.size := by obtain ⟨m, hm⟩ := k1; exact DataW.trod_lt m _ _ _ hm
  have hsz := hsz0
  rw [show Tryz.checked.prog = Tryz.prog from rfl] at hsz
  obtain ⟨s0, rfl, rfl, rfl, ws0⟩ := open_string Tryz.underlying9 (hval 0 9 v0 rfl rfl) h0
  have z0 : (s0.data.toList.length : Int) ≤ 140737488355328 := by
    have h9 := sized_string hsz (j := 0) (t := 9) rfl rfl
    have h8 : reachBytes = 140737488351232 := rfl
    omega
  rw [← St_of s0]
  obtain ⟨x1, rfl, rfl, rfl, wx1⟩ := open_int Tryz.underlying3 (hval 1 3 v1 rfl rfl) h1
  have o1 := ok64_of wx1
  clear hA0 hval0
  refine (conds_any _ x1 z0 W (gq_of_laid hL)).mono fun e W' ⟨he, bel⟩ => ?_
  subst he
  exact ⟨_, rfl, _, _, _, [], _, [], hW', trodAll_mk1 (shut_bool Tryz.underlying4 _), (trodAll_cons_mk (Below.trod laidOut (by kernel_rfl) (of_decide_eq_true (by kernel_rfl)) k0 bel lt0) (trodAll_cons_mk (Below.trod laidOut (by kernel_rfl) (of_decide_eq_true (by kernel_rfl)) k1 bel lt1) trodAll_mk0)), rfl, bel.frame _, fun h => by cases h⟩

theorem printConds_said : Rows.PrintCondsSaid :=
  OpenClaim.holds_of_wide 5 Tryz.f5 rfl rfl rfl rfl rfl rfl rfl ⟨rfl, rfl, rfl, rfl, rfl⟩ rfl rfl rfl rfl rfl (by kernel_rfl) Tryz.func5 (by kernel_rfl)
    (of_decide_eq_true (by kernel_rfl)) (by unfold Func.isWrapper; first | (rw [if_pos (by decide +kernel)]; kernel_rfl) | (rw [if_neg (by decide +kernel)]; exact ⟨rfl, rfl⟩))
    (fun os started H enc _ => printConds_lifted os started H enc)

theorem printConds_card : Rows.PrintCondsCardSaid :=
  Claim7.holds_tied_plain_at .later [] [.data, .data, .data, .sentinel, .sentinel, .data, .data, .data, .data] true (true, "180217d41ddfb957e5e7ffb337306d3fda63b23fb9835e9fc7f521b5d9e61688") true
    printConds_said (fun _ h => by cases h) (by kernel_rfl) (fun _ h => by cases h) printConds_row_tie rfl ⟨rfl, rfl⟩ (by kernel_rfl) rfl
    (fun f fn hf hfn => by
      obtain rfl : f = 5 := Option.some.inj ((show Tryz.prog.funcNamed Rows.printCondsRow.func = some 5 by kernel_rfl).symm.trans hf) |>.symm
      obtain rfl : fn = Tryz.f5 := (Option.some.inj (Tryz.func5.symm.trans hfn)).symm
      exact ⟨by kernel_rfl, fun j t ht => by
        rw [Tryz.params5] at ht
        have hm : t ∈ [9, 3] := by simpa using Array.mem_of_getElem? ht
        have hall : ([9, 3].all fun u => !Tryz.prog.wantsStandIn u) = true := by kernel_rfl
        exact (show Tryz.prog.wantsStandIn t = false by simpa using List.all_eq_true.1 hall t hm)⟩)
    (by kernel_rfl)

#print axioms printConds_card
end Go.Proofs.YtmpjmimhoikknaaGreatDoor
