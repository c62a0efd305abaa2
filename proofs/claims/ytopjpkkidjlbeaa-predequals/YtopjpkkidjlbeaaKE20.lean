/-
  The reference's reader: any step, any query, at any depth.
  The reference's reader: what is answered at the end.
  The reference's Parse and Cond.
  The document's examples.
  A text as a condition; stage 15's examples.
  Stage 15's examples.
  What stage 15's cut and few return.
  A condition of equality, and of its opposite.
-/
import Derived.Test.YtopjpkkidjlbeaaKE03
import Derived.Test.YtopjpkkidjlbeaaKE05
import Derived.Test.YtopjpkkidjlbeaaKE16
import Derived.Test.YtopjpkkidjlbeaaKE18
import Derived.Test.YtopjpkkidjlbeaaKE19
namespace Go.Proofs.Ytopjpkkidjlbeaa
open Go.RowKit Go.Joins

section
variable {B : Nat} {ts : List Tp} {w w' : World} {rb : Nat} {tv sv : Value} {E : Int} {o i : Nat} {qs : List Nd}
theorem wants_open0 (h : Ry B ts w rb tv sv 0 o (i + 1) qs) (hw : isW ts (i + 1) wOpen = false) : Calls Try.prog 112 #[dp rb, .string (St wOpen)] w fun e w' => e = .returned (.tuple #[]) ∧ Kp (fun k => k = rb) w w' ∧ Ry B ts w' rb tv sv 120 o (i + 1) qs := by
  refine (rwants_any h wOpen).mono ?_
  rintro e w1 ⟨hk, x, v, E1, j1, rfl, hv, hq, hc⟩
  obtain rfl := hv
  unfold lf wantS at hc; rw [if_pos rfl, hw, if_neg (by decide)] at hc
  rcases hc with ⟨hc, -⟩ | ⟨hc, -⟩
  · cases hc; exact ⟨rfl, hk, hq⟩
  · cases hc
theorem wants_open1 (h : Ry B ts w rb tv sv 0 o (i + 1) qs) (hw : isW ts (i + 1) wOpen = true) : Calls Try.prog 112 #[dp rb, .string (St wOpen)] w fun e w' => e = .returned (.tuple #[]) ∧ Kp (fun k => k = rb) w w' ∧ Ry B ts w' rb tv sv 0 o (i + 2) qs := by
  refine (rwants_any h wOpen).mono ?_
  rintro e w1 ⟨hk, x, v, E1, j1, rfl, hv, hq, hc⟩
  obtain rfl := hv
  unfold lf wantS at hc; rw [if_pos rfl, hw, if_pos rfl] at hc
  rcases hc with ⟨hc, -⟩ | ⟨hc, rfl⟩
  · cases hc
  · cases hc; exact ⟨rfl, hk, hq⟩
theorem rdeeper_bad (hE : ¬ E = 0) (h : Ry B ts w rb tv sv E o i qs) (hl : qs.length + 1 ≤ i) (ho : o ≤ 16) : Calls Try.prog 111 #[dp rb] w fun e w' => e = .returned (.tuple #[]) ∧ Kp (fun k => k = rb) w w' ∧ Ry B ts w' rb tv sv E (o + 1) i qs := by
  refine (rdeeper_any h hl ho).mono ?_
  rintro e w2 ⟨rfl, hk, ⟨he, hq⟩ | ⟨he, ho2, hq⟩ | ⟨he, ho2, hq⟩⟩
  · exact ⟨rfl, hk, hq⟩
  · exact absurd he hE
  · exact absurd he hE
end
end Go.Proofs.Ytopjpkkidjlbeaa
namespace Go.Proofs.Ytopjpkkidjlbeaa
open Go.RowKit Go.Joins

def endS (ts : List Tp) (E : Int) (j : Nat) (ns : List Np) : List Np × Nat × Int :=
  if E = 0 then (if j < ts.length then ([], j, 120) else if 128 < ns.length then ([], 0, 2) else (ns, 0, 0)) else ([], j, E)
section
variable {B : Nat} {ts : List Tp} {w w' : World} {rb : Nat} {tv sv : Value} {E : Int} {o i : Nat} {qs : List Nd}
def RenP (B : Nat) (rb : Nat) (w : World) (r : List Np × Nat × Int) (e : Ending) (w' : World) : Prop :=
  ∃ v, e = .returned (.tuple #[.agg #[v], .int .i64 (r.2.1 : Int), .int .i64 r.2.2]) ∧ Nq B w' v r.1 ∧ Kp (fun k => k = rb) w w'
theorem Ry.nq (h : Ry B ts w rb tv sv E o i qs) : Nq B w sv (qs.map (·.np)) := ⟨qs, h.own, h.each, rfl⟩
set_option maxRecDepth 100000 in
set_option maxHeartbeats 2000000 in
theorem rend_any (h : Ry B ts w rb tv sv E o i qs) : Calls Try.prog 47 #[dp rb] w (RenP B rb w (endS ts E i (qs.map (·.np)))) := by
  have HB0 : Hid (Below w.heap.size w (w.alloc (.cells #[.slice none 0 0] 24))) := (Below.refl _ _).alloc (Nat.le_refl _) _
  have HZ := hid (alloc_block w (.cells #[.slice none 0 0] 24))
  have HR0 := hid h
  have HR1 := hid (h.on HB0.out)
  have htl := h.tl
  have hil := h.il
  have hql := h.ql
  have hne : ¬ rb = w.heap.size := by have := h.lt; omega
  obtain ⟨p, cap, rfl, hc1, hc2⟩ := h.tok.form
  obtain ⟨ps, cs, rfl⟩ := h.own.form
  unfold maxLen at hc2
  have iI0 : (0 : Int) ≤ i := by omega
  have k1 := HR1.out.cell
  have z1 := HR1.out.frozen
  have kz := block_cell HZ.out
  have fz := block_frozen HZ.out
  generalize hW : w.alloc (.cells #[.slice none 0 0] 24) = w1 at *
  have HW := hid hW
  clear h hW
  by_cases hE : E = 0
  · subst hE
    by_cases hi : i < ts.length
    · have dI : decide ((i : Int) < ts.length) = true := by simp; omega
      have iI : (i : Int) < ts.length := by omega
      have HE : Hid (endS ts 0 i (qs.map (·.np)) = ([], i, 120)) := by show _ = _; unfold endS; rw [if_pos rfl, if_pos hi]
      clear hi
      go_enter Try.func47, Try.ntmps47
      go_upto_region 1 with fail
      rw [HW.out]
      go_quiet (fail)
      have HR2 := hid (HR1.out.on (below_drewN (Below.refl _ _) nq))
      have HZ2 := hid (block_on HZ.out (below_drewN (Below.refl w1.heap.size w1) nq))
      have HK2 := hid ((Kp.of (T := fun k => k = rb) HB0.out).trans (Kp.of (below_drewN (Below.refl w1.heap.size w1) nq)))
      generalize w1.drewN nq = W2 at *
      clear k1 z1 kz fz
      have k1 := HR2.out.cell
      go_upto_region 4 with (go_at_call 77; clear k1; refine (rfail_any HR2.out).mono ?_; rintro e w3 ⟨rfl, hq, hk⟩; have HR3 := hid hq; have HZ3 := hid (hk.blk HZ2.out (fun e => hne e.symm)); have HK3 := hid (HK2.out.trans hk); have k1 : ∀ j, w3.cell? ⟨rb, j, none⟩ = #[.slice p ts.length cap, .int .i64 (i : Int), .slice ps qs.length cs, .int .i64 120, .int .i64 (o : Int)][j]? := hq.cell; have kz := block_cell HZ3.out; have fz := block_frozen HZ3.out; clear hq hk)
      go_region_with (fail)
      all_goals
        (go_wp2
         refine bodyPost_ret (v := .tuple #[.agg #[.slice none 0 0], .int .i64 (i : Int), .int .i64 120]) (by simp [results, Try.results47, go_sem, block_cell (block_on (q_set HZ3.out (.slice none 0 0)) (Below.refl _ _).drew) 0]) rfl ?_
         show RenP _ _ _ _ _ _
         rw [HE.out]
         exact ⟨_, rfl, Nq.nil _ _, (HK3.out.trans' (Kp.set (T := fun k => k = w.heap.size) rfl _) (fun k hk e => by omega)).trans (Kp.drew _ _)⟩)
    · have dI : decide ((i : Int) < ts.length) = false := by simp; omega
      have iI : ¬ (i : Int) < ts.length := by omega
      by_cases h128 : 128 < qs.length
      · have HE : Hid (endS ts 0 i (qs.map (·.np)) = ([], 0, 2)) := by show _ = _; unfold endS; rw [if_pos rfl, if_neg hi, if_pos (by simpa using h128)]
        have qI : 128 < (qs.length : Int) := by omega
        clear hi h128
        go_enter Try.func47, Try.ntmps47
        go_upto_region 1 with fail
        rw [HW.out]
        go_quiet (fail)
        have HR2 := hid (HR1.out.on (below_drewN (Below.refl _ _) nq))
        have HZ2 := hid (block_on HZ.out (below_drewN (Below.refl w1.heap.size w1) nq))
        have HK2 := hid ((Kp.of (T := fun k => k = rb) HB0.out).trans (Kp.of (below_drewN (Below.refl w1.heap.size w1) nq)))
        generalize w1.drewN nq = W2 at *
        clear k1 z1 kz fz
        have k1 := HR2.out.cell
        have kz := block_cell HZ2.out
        have fz := block_frozen HZ2.out
        go_wp2_with fail
        refine bodyPost_ret (v := .tuple #[.agg #[.slice none 0 0], .int .i64 0, .int .i64 2]) (by simp [results, Try.results47, go_sem, block_cell (q_set HZ2.out (.slice none 0 0)) 0]) rfl ?_
        show RenP _ _ _ _ _ _
        rw [HE.out]
        exact ⟨_, rfl, Nq.nil _ _, HK2.out.trans' (Kp.set (T := fun k => k = w.heap.size) rfl _) (fun k hk e => by omega)⟩
      · have HE : Hid (endS ts 0 i (qs.map (·.np)) = (qs.map (·.np), 0, 0)) := by show _ = _; unfold endS; rw [if_pos rfl, if_neg hi, if_neg (by simpa using h128)]
        have qI : ¬ 128 < (qs.length : Int) := by omega
        have HBl : Hid (B ≤ w.heap.size) := HR0.out.B_le
        clear hi h128
        go_enter Try.func47, Try.ntmps47
        go_upto_region 1 with fail
        rw [HW.out]
        go_quiet (fail)
        have HR2 := hid (HR1.out.on (below_drewN (Below.refl _ _) nq))
        have HZ2 := hid (block_on HZ.out (below_drewN (Below.refl w1.heap.size w1) nq))
        have HK2 := hid ((Kp.of (T := fun k => k = rb) HB0.out).trans (Kp.of (below_drewN (Below.refl w1.heap.size w1) nq)))
        generalize w1.drewN nq = W2 at *
        clear k1 z1 kz fz
        have k1 := HR2.out.cell
        have kz := block_cell HZ2.out
        have fz := block_frozen HZ2.out
        go_wp2_with fail
        refine bodyPost_ret (v := .tuple #[.agg #[.slice ps qs.length cs], .int .i64 0, .int .i64 0]) (by simp [results, Try.results47, go_sem, block_cell (q_set HZ2.out (.slice ps qs.length cs)) 0]) rfl ?_
        show RenP _ _ _ _ _ _
        rw [HE.out]
        have hk := HK2.out.trans' (Kp.set (T := fun k => k = w.heap.size) (i := 0) (w := W2) rfl (.slice ps qs.length cs)) (fun k hk e => by omega)
        have hq := HR2.out.kp (Kp.set (T := fun k => k = w.heap.size) (i := 0) (w := W2) rfl (.slice ps qs.length cs)) (fun k ht e => by have := HR0.out.T_lt k ht; omega) (by rintro k rfl c t fz hc; rw [HZ2.out] at hc; cases hc; decide) (fun k e => by have := HBl.out; omega)
        exact ⟨_, rfl, hq.nq, hk⟩
  · have bE : (E == 0) = false := by simp [hE]
    have bE2 : (E != 0) = true := by simp [hE]
    have HE : Hid (endS ts E i (qs.map (·.np)) = ([], i, E)) := by show _ = _; unfold endS; rw [if_neg hE]
    clear hE
    go_enter Try.func47, Try.ntmps47
    go_upto_region 1 with fail
    rw [HW.out]
    go_quiet (fail)
    have HR2 := hid (HR1.out.on (below_drewN (Below.refl _ _) nq))
    have HZ2 := hid (block_on HZ.out (below_drewN (Below.refl w1.heap.size w1) nq))
    have HK2 := hid ((Kp.of (T := fun k => k = rb) HB0.out).trans (Kp.of (below_drewN (Below.refl w1.heap.size w1) nq)))
    generalize w1.drewN nq = W2 at *
    clear k1 z1 kz fz
    have k1 := HR2.out.cell
    have kz := block_cell HZ2.out
    have fz := block_frozen HZ2.out
    go_upto_region 4 with fail
    go_region_with (fail)
    all_goals
      (go_wp2
       refine bodyPost_ret (v := .tuple #[.agg #[.slice none 0 0], .int .i64 (i : Int), .int .i64 E]) (by simp [results, Try.results47, go_sem, block_cell (block_on (q_set HZ2.out (.slice none 0 0)) (Below.refl _ _).drew) 0]) rfl ?_
       show RenP _ _ _ _ _ _
       rw [HE.out]
       exact ⟨_, rfl, Nq.nil _ _, (HK2.out.trans' (Kp.set (T := fun k => k = w.heap.size) rfl _) (fun k hk e => by omega)).trans (Kp.drew _ _)⟩)
end
end Go.Proofs.Ytopjpkkidjlbeaa
namespace Go.Proofs.Ytopjpkkidjlbeaa
open Go.RowKit Go.Joins

theorem end_whole {ts : List Tp} {p : PN} {z E : Int} {ns : List Np} {j : Nat} (hl : ¬ 1024 < ts.length) (h : Cm2 (lf 0 0 (p 0 [])) z ns j E) : endS ts E j ns = wholeS ts p := by
  unfold lf at h; rw [if_pos rfl] at h
  unfold wholeS; rw [if_neg hl]
  rcases h with ⟨h, hE⟩ | ⟨a, rfl, h, rfl⟩
  · rw [h]; unfold endS; rw [if_neg hE]
  · rw [h]; unfold endS; rw [if_pos rfl]
section
variable {ts : List Tp} {w : World} {tv : Value}
theorem ry_start {w1 : World} (htok : SlAt (fun b => b < w1.heap.size) Tp.cells 4 w1 tv ts) (hl : ts.length ≤ 1024) : Ry w1.heap.size ts (w1.alloc (.cells #[tv, .int .i64 0, .slice none 0 0, .int .i64 0, .int .i64 0] 87)) w1.heap.size tv (.slice none 0 0) 0 0 0 [] :=
  ⟨Nat.le_refl _, alloc_block _ _, Own.nil _ _ _ _ _, fun q hq => by simp at hq, htok.on ((Below.refl _ _).alloc (Nat.le_refl _) _), Nat.zero_le _, hl, Nat.le_refl _, by omega⟩
set_option maxRecDepth 100000 in
set_option maxHeartbeats 2000000 in
theorem RCond_any (htok : SlAt (fun b => b < w.heap.size) Tp.cells 4 w tv ts) : Calls Try.prog 23 #[tv] w (WhP w (wholeS ts (condS ts 16))) := by
  have HB0 : Hid (Below w.heap.size w (w.alloc (.cells #[.slice none 0 0] 24))) := (Below.refl _ _).alloc (Nat.le_refl _) _
  have HZ := hid (alloc_block w (.cells #[.slice none 0 0] 24))
  have HTk := hid ((htok.on HB0.out).imp (Q' := fun b => b < (w.alloc (.cells #[.slice none 0 0] 24)).heap.size) (fun b hb => by simp; omega))
  generalize hW : w.alloc (.cells #[.slice none 0 0] 24) = w1 at *
  have HW := hid hW
  obtain ⟨p, cap, rfl, hc1, hc2⟩ := htok.form
  unfold maxLen at hc2
  clear htok hW
  by_cases hl : 1024 < ts.length
  · have lI : 1024 < (ts.length : Int) := by omega
    have HE : Hid (wholeS ts (condS ts 16) = ([], 0, 2)) := by show _ = _; unfold wholeS; rw [if_pos hl]
    have kz := block_cell HZ.out
    have fz := block_frozen HZ.out
    clear hl
    go_enter Try.func23, Try.ntmps23
    go_upto_region 1 with fail
    rw [HW.out]
    go_wp2_with fail
    have hX := q_box (v := .slice none 0 0) (w2 := w1) HZ.out HB0.out (Nq.nil _ _) (Below.refl _ _)
    have k9 := block_cell hX.1
    refine bodyPost_ret (v := .tuple #[.agg #[.slice none 0 0], .int .i64 0, .int .i64 2]) (by simp [results, Try.results23, go_sem, k9]) rfl ?_
    show WhP _ _ _ _
    rw [HE.out]
    exact ⟨_, rfl, hX.2.1, hX.2.2⟩
  · have lI : ¬ 1024 < (ts.length : Int) := by omega
    have HL := hid hl
    have HR := hid (ry_start HTk.out (by omega))
    clear hl
    go_enter Try.func23, Try.ntmps23
    go_upto_region 1 with fail
    rw [HW.out]
    go_wp2_with (first
      | (go_at_call 46; refine (rcondS 16 (Nat.le_refl _) _ _ _ _ _ (fun h17 => by omega) HR.out).mono ?_; rintro e w3 ⟨hk, z3, E3, j3, sv3, qs3, rfl, hz3, hq, ha, hc⟩; have HR3 := hid hq; have HC3 := hid hc; have HB3 := hid (((Below.refl w1.heap.size w1).alloc (Nat.le_refl _) (.cells #[.slice p ts.length cap, .int .i64 0, .slice none 0 0, .int .i64 0, .int .i64 0] 87)).trans (hk.below (by simp) (fun k ht => ht.elim (fun e => by omega) (fun e => by cases e)))); clear hk hq ha hc hz3)
      | (go_at_call 47; refine (rend_any HR3.out).mono ?_; rintro e w4 ⟨v4, rfl, hn, hk⟩; have HB4 := hid (HB3.out.trans (hk.below HB3.out.size (fun k e => by omega))); have HN4 := hid hn; have HX := hid (q_box HZ.out HB0.out hn (HB3.out.trans (hk.below HB3.out.size (fun k e => by omega)))); have kz := block_cell (block_on HZ.out HB4.out); have fz := block_frozen (block_on HZ.out HB4.out); obtain ⟨qs4, ho4, -⟩ := hn; obtain ⟨pv, cv, rfl⟩ := ho4.form; clear hk ho4))
    have k9 := block_cell HX.out.1
    refine bodyPost_ret (v := .tuple #[.agg #[.slice pv qs4.length cv], .int .i64 ((endS ts E3 j3 (qs3.map (·.np))).2.1 : Int), .int .i64 (endS ts E3 j3 (qs3.map (·.np))).2.2]) (by simp [results, Try.results23, go_sem, k9]) rfl ?_
    show WhP _ _ _ _
    rw [← end_whole HL.out HC3.out]
    exact ⟨_, rfl, HX.out.2.1, HX.out.2.2⟩
end
end Go.Proofs.Ytopjpkkidjlbeaa
namespace Go.Proofs.Ytopjpkkidjlbeaa
open Go.RowKit Go.Joins

def t1 : List UInt8 := [102, 101, 116, 99, 104, 32, 108, 111, 97, 100, 32, 124, 32, 119, 104, 101, 114, 101, 32, 104, 111, 115, 116, 32, 61, 32, 34, 97, 34, 32, 111, 114, 32, 110, 32, 62, 32, 53, 32, 97, 110, 100, 32, 117, 112, 32, 61, 32, 116, 114, 117, 101, 32, 124, 32, 116, 111, 112, 32, 51, 32, 98, 121, 32, 110]
def t2 : List UInt8 := [102, 101, 116, 99, 104, 32, 108, 111, 97, 100, 32, 124, 32, 106, 111, 105, 110, 32, 40, 102, 101, 116, 99, 104, 32, 108, 97, 116, 41, 32, 124, 32, 107, 101, 101, 112, 32, 104, 111, 115, 116]
def t3 : List UInt8 := [102, 101, 116, 99, 104, 32, 108, 111, 97, 100, 32, 124]
def t4 : List UInt8 := [102, 101, 116, 99, 104, 32, 108, 111, 97, 100, 32, 124, 32, 98, 121]
def t5 : List UInt8 := [102, 101, 116, 99, 104, 32, 53]
theorem q1_is : (queryO t1).2 = (0, 0) ∧ (queryO t1).1.map (·.l) = [[], [], [], [], [2, 3], [1, 4], [0, 5], [6]] ∧ (queryO t1).1.map (·.kind) = [1, 14, 14, 14, 11, 12, 2, 6] ∧ (queryO t1).1.map (·.n) = [0, 1, 5, 1, 0, 0, 0, 3] ∧ ((queryO t1).1.map (·.s))[7]? = some [110] := by decide +kernel
theorem q2_is : (queryO t2).2 = (0, 0) ∧ (queryO t2).1.map (·.l) = [[], [], [0, 1], [2]] := by decide +kernel
theorem q3_is : (queryO t3).2 = (12, 120) := by decide +kernel
theorem q4_is : (queryO t4).2 = (13, 120) := by decide +kernel
theorem q5_is : (queryO t5).2 = (6, 120) := by decide +kernel
/- A node of a row, with where it lies. -/
theorem Nq.len {n : Nat} {w : World} {v : Value} {ns : List Np} (h : Nq n w v ns) : ∃ p c, v = .slice p ns.length c ∧ ns.length ≤ c ∧ c ≤ maxLen := by
  obtain ⟨qs, h1, h2, h3⟩ := h
  obtain ⟨p, c, hv, hc, hm⟩ := (h1.sl nd_len).form
  exact ⟨p, c, by rw [hv, ← h3, List.length_map], by rw [← h3, List.length_map]; exact hc, hm⟩
/- The row's block and its nodes. -/
def Nr (n : Nat) (w : World) (g : Nat) (ns : List Np) : Prop := n ≤ g ∧ g < w.heap.size ∧ ∀ k x, ns[k]? = some x → ∃ q : Nd, q.np = x ∧ CellsAt w g (k * 19) q.cells ∧ NdIn n w q
theorem Nq.rows {n : Nat} {w : World} {v : Value} {ns : List Np} (h : Nq n w v ns) (hne : 0 < ns.length) : ∃ g c, v = .slice (some ⟨g, 0, none⟩) ns.length c ∧ ns.length ≤ c ∧ c ≤ maxLen ∧ Nr n w g ns := by
  obtain ⟨qs, h1, h2, h3⟩ := h
  have hl : qs.length = ns.length := by rw [← h3, List.length_map]
  rcases h1.2 with ⟨hv, h0⟩ | ⟨g, cap, cur, hv, hg, hblk, hc, hm, -⟩
  · omega
  · refine ⟨g, cap, by rw [hv, hl], by omega, hm, hg, lt_of_block hblk, fun k x hx => ?_⟩
    rw [← h3, List.getElem?_map] at hx
    cases hq : qs[k]? with
    | none => rw [hq] at hx; cases hx
    | some q =>
      rw [hq] at hx; cases hx
      refine ⟨q, rfl, ?_, h2 q (List.mem_of_getElem? hq)⟩
      have hs := h1.sl nd_len
      rw [hv] at hs
      obtain ⟨b, o, hp, _, hcell⟩ := hs.at hq
      cases hp
      simpa using hcell
theorem Nr.on {n : Nat} {w w' : World} {g : Nat} {ns : List Np} (h : Nr n w g ns) (hb : Below w.heap.size w w') : Nr n w' g ns :=
  ⟨h.1, Nat.lt_of_lt_of_le h.2.1 hb.size, fun k x hx => let ⟨q, h1, h2, h3⟩ := h.2.2 k x hx; ⟨q, h1, h2.kp (T := fun _ => False) (Kp.of hb) id, h3.on hb⟩⟩
theorem Nr.l {n : Nat} {w : World} {g : Nat} {ns : List Np} (h : Nr n w g ns) (k : Nat) {l : List Int} (hk : (ns.map (·.l))[k]? = some l) : ∃ lv, w.cell? ⟨g, k * 19 + 16, none⟩ = some lv ∧ Own int1 1 3 n w lv l := by
  rw [List.getElem?_map] at hk
  cases hx : ns[k]? with
  | none => rw [hx] at hk; cases hk
  | some x =>
    rw [hx] at hk; cases hk
    obtain ⟨q, rfl, h2, h3⟩ := h.2.2 k x hx
    exact ⟨q.lv, h2 16 _ rfl, h3.l⟩
theorem Nr.kind {n : Nat} {w : World} {g : Nat} {ns : List Np} (h : Nr n w g ns) (k : Nat) {x : Int} (hk : (ns.map (·.kind))[k]? = some x) : w.cell? ⟨g, k * 19, none⟩ = some (.int .i64 x) := by
  rw [List.getElem?_map] at hk
  cases hx : ns[k]? with
  | none => rw [hx] at hk; cases hk
  | some y =>
    rw [hx] at hk; cases hk
    obtain ⟨q, rfl, h2, h3⟩ := h.2.2 k y hx
    exact h2 0 _ rfl
theorem Nr.n {n : Nat} {w : World} {g : Nat} {ns : List Np} (h : Nr n w g ns) (k : Nat) {x : Int} (hk : (ns.map (·.n))[k]? = some x) : w.cell? ⟨g, k * 19 + 2, none⟩ = some (.int .i64 x) := by
  rw [List.getElem?_map] at hk
  cases hx : ns[k]? with
  | none => rw [hx] at hk; cases hk
  | some y =>
    rw [hx] at hk; cases hk
    obtain ⟨q, rfl, h2, h3⟩ := h.2.2 k y hx
    exact h2 2 _ rfl
theorem Nr.s {n : Nat} {w : World} {g : Nat} {ns : List Np} (h : Nr n w g ns) (k : Nat) {x : List UInt8} (hk : (ns.map (·.s))[k]? = some x) : w.cell? ⟨g, k * 19 + 1, none⟩ = some (.string (St x)) := by
  rw [List.getElem?_map] at hk
  cases hx : ns[k]? with
  | none => rw [hx] at hk; cases hk
  | some y =>
    rw [hx] at hk; cases hk
    obtain ⟨q, rfl, h2, h3⟩ := h.2.2 k y hx
    exact h2 1 _ rfl
theorem lit2 {W : World} (l : List Int) (hl : l.length ≤ 1000) {cs : Array Value} {n : Nat} (hc : cs = (l.flatMap int1).toArray) (hn : n = l.length) : SlAt (fun _ => True) int1 1 (W.alloc (.cells cs 3)) (.slice (some ⟨W.heap.size, 0, none⟩) n n) l := by
  subst hc
  subst hn
  exact ((own_ints W l hl (B := 0) (Nat.zero_le _)).sl (fun _ => rfl)).imp (fun _ _ => trivial)
/- What is read of the two answers. -/
structure Sw (w : World) (b1 b2 g1 g2 c1 c2 : Nat) : Prop where
  x1 : w.heap[b1]? = some (.cells #[.slice (some ⟨g1, 0, none⟩) 8 c1] 24 (0, 0))
  x2 : w.heap[b2]? = some (.cells #[.slice (some ⟨g2, 0, none⟩) 4 c2] 24 (0, 0))
  r1 : Nr 0 w g1 (queryO t1).1
  r2 : Nr 0 w g2 (queryO t2).1
theorem Sw.on {w w' : World} {b1 b2 g1 g2 c1 c2 : Nat} (h : Sw w b1 b2 g1 g2 c1 c2) (hb : Below w.heap.size w w') : Sw w' b1 b2 g1 g2 c1 c2 := ⟨block_on h.x1 hb, block_on h.x2 hb, h.r1.on hb, h.r2.on hb⟩
theorem at_of {ns : List Np} {ls : List (List Int)} (h : ns.map (·.l) = ls) {k : Nat} {l : List Int} (hk : ls[k]? = some l) : (ns.map (·.l))[k]? = some l := by rw [h]; exact hk
theorem len_of {ns : List Np} {ls : List (List Int)} (h : ns.map (·.l) = ls) : ns.length = ls.length := by rw [← h, List.length_map]
theorem Nr.le {n : Nat} {w : World} {g : Nat} {ns : List Np} (h : Nr n w g ns) : Nr 0 w g ns :=
  ⟨Nat.zero_le _, h.2.1, fun k x hx => let ⟨q, h1, h2, h3⟩ := h.2.2 k x hx; ⟨q, h1, h2, h3.le (Nat.zero_le _)⟩⟩
theorem St_eqL (l p : List UInt8) : ((St l).toList == p) = (l == p) := by
  rw [ByteArray.toList_eq, St_toList]
end Go.Proofs.Ytopjpkkidjlbeaa
namespace Go.Proofs.Ytopjpkkidjlbeaa.PD
open Go.RowKit Go.Joins

def cnodes (l : List UInt8) : List Np := (wholeS ((lexO l).1.map tp) (condS ((lexO l).1.map tp) 16)).1
def nx0 (n : Np) : Nx := ⟨n, 0, 0, 0, 0, 0, 0, 0, 0, .slice none 0 0, .slice none 0 0, .slice none 0 0⟩
def strip (q : Nx) : Nx := { q with lv := .slice none 0 0, nv := .slice none 0 0, gv := .slice none 0 0 }
theorem oksA_strip (cs : List TN.Cl) (row : TN.Rw) : ∀ (qs : List Nx) (acc : List Bool), oksA cs row (qs.map strip) acc = oksA cs row qs acc
  | [], _ => rfl
  | q :: r, acc => by
    show oksA cs row (r.map strip) (acc ++ [tst cs (strip q) acc.length acc row]) = oksA cs row r (acc ++ [tst cs q acc.length acc row])
    rw [show tst cs (strip q) acc.length acc row = tst cs q acc.length acc row from rfl, oksA_strip cs row r]
theorem holdsX_strip (cs : List TN.Cl) (qs : List Nx) (i : Int) (row : TN.Rw) : holdsX cs (qs.map strip) i row = holdsX cs qs i row := by
  unfold holdsX oks; rw [oksA_strip]
def ofNd (q : Nd) : Nx := ⟨q.np, 0, 0, 0, 0, 0, 0, 0, 0, q.lv, q.nv, q.gv⟩
theorem slAt_map {α β : Type} {Q : Nat → Prop} {enc : α → List Value} {enc' : β → List Value} {k : Nat} {w : World} {v : Value} {xs : List α} (f : α → β) (hf : ∀ x, enc' (f x) = enc x) (h : SlAt Q enc k w v xs) : SlAt Q enc' k w v (xs.map f) := by
  obtain ⟨p, cap, hv, hc, hx⟩ := h
  refine ⟨p, cap, by rw [List.length_map]; exact hv, by rw [List.length_map]; exact hc, fun hne => ?_⟩
  obtain ⟨b, o, hp, hQ, hj⟩ := hx (by intro e; subst e; exact hne rfl)
  refine ⟨b, o, hp, hQ, fun j y hy => ?_⟩
  rw [List.getElem?_map] at hy
  cases e : xs[j]? with
  | none => rw [e] at hy; cases hy
  | some x => rw [e] at hy; cases hy; rw [hf]; exact hj j x e
/- What was read, as nodes that may be handed in. -/
theorem nq_qx {n : Nat} {w : World} {v : Value} {ns : List Np} (h : Nq n w v ns) : ∃ qs, Qx (fun b => b < w.heap.size) w v qs ∧ qs.map strip = ns.map nx0 ∧ qs.length = ns.length := by
  obtain ⟨ds, ho, he, hm⟩ := h
  refine ⟨ds.map ofNd, ⟨slAt_map ofNd (fun _ => rfl) ((ho.sl nd_len).imp (fun b hb => hb.2)), fun q hq => ?_⟩, ?_, by rw [List.length_map, ← hm, List.length_map]⟩
  · obtain ⟨d, hd, rfl⟩ := List.mem_map.1 hq
    have := he d hd
    exact ⟨(this.l.sl (fun _ => rfl)).imp (fun b hb => hb.2), (this.n.sl (fun _ => rfl)).imp (fun b hb => hb.2), (this.g.sl (fun _ => rfl)).imp (fun b hb => hb.2)⟩
  · rw [← hm, List.map_map, List.map_map]; rfl
def CoP (l : List UInt8) (w : World) (e : Ending) (w' : World) : Prop := ∃ v, e = .returned (.agg #[v]) ∧ Nq w.heap.size w' v (cnodes l) ∧ Below w.heap.size w w'
set_option maxRecDepth 100000 in
set_option maxHeartbeats 1000000 in
theorem cond5_any (l : List UInt8) (hl : (l.length : Int) ≤ 140737488355328) (w : World) : Calls Try.prog 62 #[.string (St l)] w (CoP l w) := by
  have HL := hid (fun w => rlex_any l hl w)
  have HK : Hid (∀ (w : World) (tv : Value), SlAt (fun b => b < w.heap.size) Tp.cells 4 w tv ((lexO l).1.map tp) → Calls Try.prog 23 #[tv] w (WhP w (wholeS ((lexO l).1.map tp) (condS ((lexO l).1.map tp) 16)))) := fun w tv h => RCond_any h
  have hb0 : Below w.heap.size w (w.alloc (.cells #[.slice none 0 0] 24)) := (Below.refl _ _).alloc (Nat.le_refl _) _
  have hz := alloc_block w (.cells #[Value.slice none 0 0] 24)
  have HB0 := hid hb0
  have HZ := hid hz
  have HCn : Hid (cnodes l = (wholeS ((lexO l).1.map tp) (condS ((lexO l).1.map tp) 16)).1) := rfl
  generalize wholeS ((lexO l).1.map tp) (condS ((lexO l).1.map tp) 16) = R at *
  unfold LexP at HL
  generalize (lexO l) = X at *
  obtain ⟨ns, pa, ea⟩ := R
  obtain ⟨us, xa, xe⟩ := X
  clear hb0 hz
  have hlt := lt_of_block HZ.out
  go_enter Try.func62, Try.ntmps62
  go_upto_region 1 with fail
  generalize w.alloc (.cells #[.slice none 0 0] 24) = W at *
  go_upto_region 3 with (first
    | (go_at_call 22; refine (HL.out _).mono ?_; rintro e w4 ⟨tv, rfl, htr, hb⟩; have HB4 := hid hb; have HT4 := hid htr.sl; clear htr hb)
    | (go_at_call 23; refine (HK.out _ _ HT4.out).mono ?_; rintro e w5 ⟨vs, rfl, hns, hb⟩; obtain ⟨p5, c5, rfl, -, -⟩ := hns.len; have HN5 := hid hns; have HB5 := hid (HB4.out.trans (hb.mono HB4.out.size)); have HS4 := hid HB4.out.size; clear hns hb))
  have hb6 : Below w5.heap.size w5 (w5.alloc (.cells #[.slice p5 ns.length c5] 24)) := (Below.refl _ _).alloc (Nat.le_refl _) _
  have hq6 := alloc_block w5 (.cells #[.slice p5 ns.length c5] 24)
  have hz6 := block_on (block_on HZ.out HB5.out) hb6
  have HN6 := hid (HN5.out.on hb6)
  have HB6 := hid (HB0.out.trans ((HB5.out.trans (hb6.mono HB5.out.size)).mono HB0.out.size))
  have y1 : (w5.alloc (.cells #[.slice p5 ns.length c5] 24)).cell? ⟨w5.heap.size, 0, none⟩ = some (.slice p5 ns.length c5) := block_cell hq6 0
  have y2 : (w5.alloc (.cells #[.slice p5 ns.length c5] 24)).cell? ⟨w.heap.size, 0, none⟩ = some (.slice none 0 0) := block_cell hz6 0
  have y3 := block_frozen hz6 0
  have HZ6 := hid hz6
  have hs5 := HB5.out.size
  have hs0 := HB0.out.size
  have hs4 := HS4.out
  clear hq6 hz6 hb6
  generalize w5.alloc (.cells #[.slice p5 ns.length c5] 24) = w6 at *
  go_wp2_with fail
  have KF := block_set HZ6.out 0 (.slice p5 ns.length c5)
  have hkf : Kp (fun b => b = w.heap.size) w6 (w6.setCell ⟨w.heap.size, 0, none⟩ (.slice p5 ns.length c5)) := Kp.set (T := fun b => b = w.heap.size) rfl _
  have hNf := HN6.out.kp hkf (fun b e => by omega)
  have hBf : Below w.heap.size w (w6.setCell ⟨w.heap.size, 0, none⟩ (.slice p5 ns.length c5)) := HB6.out.trans (hkf.below HB6.out.size (fun b e => by omega))
  generalize w6.setCell ⟨w.heap.size, 0, none⟩ (.slice p5 ns.length c5) = WF at *
  refine bodyPost_ret (v := .agg #[.slice p5 ns.length c5]) ?_ rfl ⟨_, rfl, by rw [HCn.out]; exact hNf.le (by omega), hBf⟩
  have kcf := block_cell KF
  clear KF
  simp [results, Try.results62, go_sem, kcf]
end Go.Proofs.Ytopjpkkidjlbeaa.PD
namespace Go.Proofs.Ytopjpkkidjlbeaa.PD
open Go.RowKit Go.Joins

theorem whole_le (ts : List Tp) (p : PN) : (wholeS ts p).1.length ≤ 128 := by
  unfold wholeS
  split
  · simp
  · split
    · simp
    · split
      · simp
      · split
        · simp
        · rename_i h; simpa using h
theorem cnodes_le (l : List UInt8) : (cnodes l).length ≤ 128 := whole_le _ _
def cols5 : List TN.Cl := [⟨⟨#[104, 111, 115, 116]⟩, 2, by decide⟩, ⟨⟨#[110]⟩, 1, by decide⟩]
def row5 : TN.Rw := [⟨2, 0, ⟨#[119, 101, 98, 49]⟩, 0, 0, 0, 0, 0, 0, 0, 0, by decide⟩, ⟨1, 5, ⟨#[]⟩, 0, 0, 0, 0, 0, 0, 0, 0, by decide⟩]
def hold5 (l : List UInt8) : Bool := holdsX cols5 ((cnodes l).map nx0) ((cnodes l).length - 1) row5
theorem rsz5 : Rsz row5 := by
  intro v hv
  unfold row5 at hv
  simp only [List.mem_cons, List.not_mem_nil, or_false] at hv
  rcases hv with rfl | rfl <;> decide
def t1 : List UInt8 := [104, 111, 115, 116, 32, 104, 97, 115, 32, 34, 101, 98, 34]
def t2 : List UInt8 := [104, 111, 115, 116, 32, 104, 97, 115, 32, 34, 120, 34]
def t3 : List UInt8 := [110, 32, 62, 32, 52, 32, 97, 110, 100, 32, 110, 111, 116, 32, 104, 111, 115, 116, 32, 61, 32, 34, 119, 101, 98, 34]
def t4 : List UInt8 := [121, 32, 61, 32, 49]
theorem t1_is : hold5 t1 = true := by decide +kernel
theorem t2_is : hold5 t2 = false := by decide +kernel
theorem t3_is : hold5 t3 = true := by decide +kernel
theorem t4_is : hold5 t4 = false := by decide +kernel
theorem tn_blk {α : Type} {enc : α → List Value} {k : Nat} {w : World} {b : Nat} {xs : List α} {t : Nat} (hk : ∀ x, (enc x).length = k) (h : w.heap[b]? = some (.cells (xs.flatMap enc).toArray t (0, 0))) (hm : xs.length ≤ 1000) : TN.SlAt TN.any enc k w (.slice (some ⟨b, 0, none⟩) xs.length xs.length) xs :=
  ⟨some ⟨b, 0, none⟩, xs.length, rfl, ⟨Nat.le_refl _, fun e => by cases e⟩, by unfold maxLen; omega, fun _ => ⟨b, 0, rfl, ⟨trivial, by unfold TN.bsz; split <;> omega⟩, fun j x hj i u hu => by
    have h2 := TN.flat_get hk xs j x hj i u hu
    rw [block_cell h, Nat.zero_add, ← Array.getElem?_toList]
    exact h2⟩⟩
set_option maxRecDepth 100000 in
set_option maxHeartbeats 2000000 in
theorem holds5_any (l : List UInt8) (hl : (l.length : Int) ≤ 140737488355328) (w : World) (hM : Mx w) : Calls Try.prog 36 #[.string (St l)] w fun e w' => e = .returned (.bool (hold5 l)) ∧ Below w.heap.size w w' := by
  have HK := hid (fun w => cond5_any l hl w)
  have HM := hid hM
  have hle := cnodes_le l
  unfold CoP at HK
  have HX : Hid (hold5 l = holdsX cols5 ((cnodes l).map nx0) ((cnodes l).length - 1) row5) := rfl
  generalize hold5 l = r5 at *
  generalize cnodes l = ns at *
  have nI : (ns.length : Int) ≤ 128 := by omega
  clear hM
  go_enter Try.func36, Try.ntmps36
  go_upto_region 2 with (first
    | (go_at_call 62; refine (HK.out _).mono ?_; rintro e w1 ⟨v, rfl, hn, hb⟩; obtain ⟨p1, c1, rfl, -, -⟩ := hn.len; have HN1 := hid hn; have HB1 := hid hb; clear hn hb))
  have hb2 : Below w1.heap.size w1 (w1.alloc (.cells #[.slice p1 ns.length c1] 24)) := (Below.refl _ _).alloc (Nat.le_refl _) _
  have hq2 := alloc_block w1 (.cells #[.slice p1 ns.length c1] 24)
  have HN2 := hid (HN1.out.on hb2)
  have HB2 := hid (HB1.out.trans (hb2.mono HB1.out.size))
  have HQ2 := hid hq2
  clear hb2 hq2
  generalize w1.alloc (.cells #[.slice p1 ns.length c1] 24) = w2 at *
  go_upto_region 3 with fail
  have hb3 : Below w2.heap.size w2 (w2.alloc (.cells #[.string ⟨#[104, 111, 115, 116]⟩, .int .i64 2, .string ⟨#[110]⟩, .int .i64 1] 57)) := (Below.refl _ _).alloc (Nat.le_refl _) _
  have hc3 : TN.ColsAt (w2.alloc (.cells #[.string ⟨#[104, 111, 115, 116]⟩, .int .i64 2, .string ⟨#[110]⟩, .int .i64 1] 57)) (.slice (some ⟨w2.heap.size, 0, none⟩) 2 2) cols5 := tn_blk (enc := TN.Cl.cells) (k := 2) (xs := cols5) (fun _ => rfl) (alloc_block _ _) (by decide)
  have HB3 := hid (HB2.out.trans (hb3.mono HB2.out.size))
  have HC3 := hid hc3
  have HN3 := hid (HN2.out.on hb3)
  have y3 := block_cell (block_on HQ2.out hb3) 0
  have HM3 := hid (HM.out.on HB3.out)
  clear hb3 hc3 HN2 HQ2 HB2
  generalize w2.alloc (.cells #[.string ⟨#[104, 111, 115, 116]⟩, .int .i64 2, .string ⟨#[110]⟩, .int .i64 1] 57) = w3 at *
  generalize w2.heap.size = bc at *
  have hb4 : Below w3.heap.size w3 (w3.alloc (.cells #[.int .i64 2, .int .i64 0, .string ⟨#[119, 101, 98, 49]⟩, .int .i64 0, .int .i64 0, .int .i64 0, .int .i64 0, .int .i64 0, .int .i64 0, .int .i64 0, .int .i64 0, .int .i64 1, .int .i64 5, .string ⟨#[]⟩, .int .i64 0, .int .i64 0, .int .i64 0, .int .i64 0, .int .i64 0, .int .i64 0, .int .i64 0, .int .i64 0] 39)) := (Below.refl _ _).alloc (Nat.le_refl _) _
  have hr4 : TN.RowAt (w3.alloc (.cells #[.int .i64 2, .int .i64 0, .string ⟨#[119, 101, 98, 49]⟩, .int .i64 0, .int .i64 0, .int .i64 0, .int .i64 0, .int .i64 0, .int .i64 0, .int .i64 0, .int .i64 0, .int .i64 1, .int .i64 5, .string ⟨#[]⟩, .int .i64 0, .int .i64 0, .int .i64 0, .int .i64 0, .int .i64 0, .int .i64 0, .int .i64 0, .int .i64 0] 39)) (.slice (some ⟨w3.heap.size, 0, none⟩) 2 2) row5 := tn_blk (enc := TN.Vl.cells) (k := 11) (xs := row5) (fun _ => rfl) (alloc_block _ _) (by decide)
  have HB4 := hid (HB3.out.trans (hb4.mono HB3.out.size))
  have HC4 := hid (HC3.out.on hb4)
  have HN4 := hid (HN3.out.on hb4)
  have HM4 := hid (HM3.out.on hb4)
  have HR4 := hid hr4
  clear hb4 hr4
  obtain ⟨qs, hq5, hst, hql⟩ := nq_qx HN4.out
  have HQ5 := hid hq5
  have HX5 : Hid (r5 = holdsX cols5 qs (ns.length - 1) row5) := by rw [HX.out, ← hst, holdsX_strip]; exact hid rfl
  have hql2 : qs.length ≤ 1000 := by omega
  have HL5 := hid hql2
  clear hq5 hst hql hql2
  go_upto_region 4 with (first
    | (go_at_call 17; refine (holds_any (qs := qs) (cs := cols5) (row := row5) _ HQ5.out HL5.out HC4.out HR4.out HM4.out (fun _ _ _ => rsz5)).mono ?_; rintro e w5 ⟨rfl, hb⟩; have HB5 := hid (HB4.out.trans (hb.mono HB4.out.size)); clear hb))
  go_wp2_with fail
  rw [← HX5.out]
  go_ret
  exact ⟨rfl, HB5.out⟩
theorem h5_is {l : List UInt8} {b : Bool} (h : hold5 l = b) (hl : (l.length : Int) ≤ 140737488355328) (w : World) (hM : Mx w) : Calls Try.prog 36 #[.string (St l)] w fun e w' => e = .returned (.bool b) ∧ Below w.heap.size w w' := h ▸ holds5_any l hl w hM
set_option maxRecDepth 100000 in
set_option maxHeartbeats 2000000 in
theorem shown5_any (w : World) (hM : Mx w) : Calls Try.prog 14 #[] w fun e w' => e = .returned (.bool true) ∧ Below w.heap.size w w' := by
  have HM := hid hM
  have M1 : Hid True := trivial
  have M2 : Hid True := trivial
  have M3 : Hid True := trivial
  have M4 : Hid True := trivial
  clear hM
  go_enter Try.func14, Try.ntmps14
  go_wp2_with (first
    | (go_at_call 36; have FIRST := M1; refine (h5_is (l := t1) t1_is (by decide) _ HM.out).mono ?_; rintro e w1 ⟨rfl, hb⟩; have HB1 := hid hb; have HM1 := hid (HM.out.on hb); clear hb M1)
    | (go_at_call 36; have FIRST := M2; refine (h5_is (l := t2) t2_is (by decide) _ HM1.out).mono ?_; rintro e w2 ⟨rfl, hb⟩; have HB2 := hid (HB1.out.trans (hb.mono HB1.out.size)); have HM2 := hid (HM1.out.on hb); clear hb M2)
    | (go_at_call 36; have FIRST := M3; refine (h5_is (l := t3) t3_is (by decide) _ HM2.out).mono ?_; rintro e w3 ⟨rfl, hb⟩; have HB3 := hid (HB2.out.trans (hb.mono HB2.out.size)); have HM3 := hid (HM2.out.on hb); clear hb M3)
    | (go_at_call 36; have FIRST := M4; refine (h5_is (l := t4) t4_is (by decide) _ HM3.out).mono ?_; rintro e w4 ⟨rfl, hb⟩; have HB4 := hid (HB3.out.trans (hb.mono HB3.out.size)); clear hb M4))
  all_goals first
    | (exfalso; contradiction)
    | (go_ret; exact ⟨rfl, HB4.out⟩)
    | skip
end Go.Proofs.Ytopjpkkidjlbeaa.PD
namespace Go.Proofs.Ytopjpkkidjlbeaa.TN
open Go.RowKit Go.Sort Go.Shelf

set_option maxHeartbeats 1000000 in
theorem cut5_q {Q : Nat → Prop} {c r : Value} {hs : List Value} {cs : List Cl} {rs : List Rw} {w : World} (hc : SlAt Q Cl.cells 2 w c cs) (hr : SlAt Q one 1 w r hs) (hh : HeadsIn Q w hs rs) :
    Calls Try.prog 16 #[.agg #[c, r]] w fun e w' => ∃ r', e = .returned (.agg #[c, r']) ∧ SlAt Q one 1 w' r' (hs.take 100) ∧ HeadsIn Q w' (hs.take 100) (rs.take 100) ∧ Below w.heap.size w w' := by
  have HR := hid hr
  obtain ⟨p, cap, rfl, ⟨hcap, -⟩, -, -⟩ := hr
  obtain ⟨q, cap', rfl, -, -, -⟩ := id hc
  have HH := hid hh
  clear hc hh
  generalize hn : hs.length = n at *
  have HN := hid hn
  clear hn
  by_cases h : 100 < n
  · have g : (100 : Int) < (n : Int) := by omega
    go_enter Try.func16, Try.ntmps16
    go_wp2
    have HB := hid (((Below.refl w.heap.size w).alloc (Nat.le_refl _) (.cells #[.slice q cs.length cap', .slice p 100 cap] 28)).alloc (by simp) (.cells #[.slice q cs.length cap', .slice p 100 cap] 28))
    refine bodyPost_ret (v := .agg #[.slice q cs.length cap', .slice p 100 cap]) (by simp [results, Try.results16, go_sem]) rfl ⟨_, rfl, (HR.out.take 100 (by omega)).on HB.out, (HH.out.take 100).on HB.out, HB.out⟩
  · have g : ¬ (100 : Int) < (n : Int) := by omega
    go_enter Try.func16, Try.ntmps16
    go_wp2
    have HB := hid (((Below.refl w.heap.size w).alloc (Nat.le_refl _) (.cells #[.slice q cs.length cap', .slice p n cap] 28)).alloc (by simp) (.cells #[.slice q cs.length cap', .slice p n cap] 28))
    rw [List.take_of_length_le (l := hs) (by rw [HN.out]; omega), List.take_of_length_le (l := rs) (by rw [← HH.out.1, HN.out]; omega)]
    refine bodyPost_ret (v := .agg #[.slice q cs.length cap', .slice p n cap]) (by simp [results, Try.results16, go_sem]) rfl ⟨_, rfl, HR.out.on HB.out, HH.out.on HB.out, HB.out⟩
end Go.Proofs.Ytopjpkkidjlbeaa.TN
namespace Go.Proofs.Ytopjpkkidjlbeaa.PD
open Go.RowKit Go.Joins

def eqN (how : Int) (c : TN.Cl) (v : TN.Vl) : Nx := ⟨⟨14, c.nm.data.toList, how, 0, 0, v.k, v.n, v.s.data.toList, [], [], []⟩, v.h0, v.h1, v.h2, v.h3, v.h4, v.h5, v.h6, v.h7, .slice none 0 0, .slice none 0 0, .slice none 0 0⟩
theorem chk_cols {cs : List TN.Cl} {rs : List TN.Rw} (h : TN.checkV cs rs = 0) : TN.colsB cs = true ∧ ∀ r ∈ rs, TN.rowB cs r = true := by
  unfold TN.checkV at h
  by_cases h1 : TN.colsB cs = true
  · rw [if_pos h1] at h
    by_cases h2 : rs.all (TN.rowB cs) = true
    · exact ⟨h1, List.all_eq_true.1 h2⟩
    · rw [if_neg h2] at h; cases h
  · rw [if_neg h1] at h; cases h
theorem col_find {cs : List TN.Cl} (h : TN.colsB cs = true) {c : Nat} (hc : c < cs.length) : TN.findC cs cs[c]!.nm = (c : Int) := by
  unfold TN.colsB at h
  have := (of_decide_eq_true h).2 c hc
  unfold TN.colOk at this
  rw [Bool.and_eq_true, Bool.and_eq_true] at this
  exact of_decide_eq_true this.2.1
theorem row_kind {cs : List TN.Cl} {r : TN.Rw} (h : TN.rowB cs r = true) {c : Nat} (hc : c < cs.length) : r.length = cs.length ∧ r[c]!.k = cs[c]!.kd := by
  unfold TN.rowB at h
  have h1 := of_decide_eq_true h
  have := h1.2 c (by omega)
  unfold TN.fitB at this
  rw [Bool.and_eq_true] at this
  exact ⟨h1.1, of_decide_eq_true this.1⟩
theorem eqs_tst {cs : List TN.Cl} {how : Int} {i : Nat} {hs : List Bool} {row : TN.Rw} {c : Nat} {v : TN.Vl} (hc : c < cs.length) (h : TN.colsB cs = true) (hr : TN.rowB cs row = true) (hv : v.k = cs[c]!.kd) (hh : how = 1 ∨ how = 2) : tst cs (eqN how cs[c]! v) i hs row = (decide (row[c]! = v) == decide (how = 1)) := by
  obtain ⟨hl, hk⟩ := row_kind hr hc
  have hf := col_find h hc
  have hva : valAt cs row (eqN how cs[c]! v).np.s = some row[c]! := by
    unfold valAt
    rw [show St (eqN how cs[c]! v).np.s = cs[c]!.nm from St_of _, hf, if_pos (by omega), Int.toNat_natCast]
    rw [List.getElem?_eq_getElem (by omega), getElem!_pos row c (by omega)]
  unfold tst
  rw [if_pos (show (eqN how cs[c]! v).np.kind = 14 from rfl), hva]
  show cmpQ (eqN how cs[c]! v) row[c]! = _
  have hz : cmpQ (eqN how cs[c]! v) row[c]! = TN.holdsB how row[c]!.k v.k (TN.cmpL row[c]! v) := by
    show TN.holdsB how row[c]!.k v.k (TN.cmpV _ _ _ _ _ _ _ _ _ _ _ v.k v.n (St v.s.data.toList) _ _ _ _ _ _ _ _) = _
    rw [St_of]; rfl
  rw [hz]
  unfold TN.holdsB
  rw [if_pos (by rw [hk, hv])]
  clear hz hva hf hk hl hr
  generalize row[c]! = x
  rcases hh with rfl | rfl
  · rw [if_pos rfl]
    by_cases e : x = v
    · rw [(TN.cmpL_zero _ _).2 e]; simp [e]
    · have : TN.cmpL x v ≠ 0 := fun e' => e ((TN.cmpL_zero _ _).1 e')
      simp [e, this]
  · rw [if_neg (by decide), if_pos rfl]
    by_cases e : x = v
    · rw [(TN.cmpL_zero _ _).2 e]; simp [e]
    · have : TN.cmpL x v ≠ 0 := fun e' => e ((TN.cmpL_zero _ _).1 e')
      simp [e, this]
theorem eqs_0 {cs : List TN.Cl} {row : TN.Rw} {c : Nat} {v : TN.Vl} (hc : c < cs.length) (h : TN.colsB cs = true) (hr : TN.rowB cs row = true) (hv : v.k = cs[c]!.kd) : holdsX cs [eqN 1 cs[c]! v, eqN 2 cs[c]! v] 0 row = decide (row[c]! = v) := by
  show (decide _ && hsAt [tst cs (eqN 1 cs[c]! v) 0 [] row, tst cs (eqN 2 cs[c]! v) 1 [tst cs (eqN 1 cs[c]! v) 0 [] row] row] 0) = _
  rw [eqs_tst hc h hr hv (.inl rfl)]
  simp [hsAt]
theorem eqs_1 {cs : List TN.Cl} {row : TN.Rw} {c : Nat} {v : TN.Vl} (hc : c < cs.length) (h : TN.colsB cs = true) (hr : TN.rowB cs row = true) (hv : v.k = cs[c]!.kd) : holdsX cs [eqN 1 cs[c]! v, eqN 2 cs[c]! v] 1 row = !decide (row[c]! = v) := by
  show (decide _ && hsAt [tst cs (eqN 1 cs[c]! v) 0 [] row, tst cs (eqN 2 cs[c]! v) 1 [tst cs (eqN 1 cs[c]! v) 0 [] row] row] 1) = _
  rw [eqs_tst (how := 2) hc h hr hv (.inr rfl)]
  simp [hsAt]
theorem filt_two {α : Type} (f : α → Bool) (l : List α) : (l.filter f).length + (l.filter (fun x => !f x)).length = l.length := by
  induction l with
  | nil => rfl
  | cons x r ih => cases e : f x <;> simp [e] <;> omega
/- What the statement asks of the rows left. -/
theorem eqs_rows {cs : List TN.Cl} {rs : List TN.Rw} {c k : Nat} (h : TN.checkV cs rs = 0) (hc : c < cs.length) (hk : k < rs.length) :
    (∀ r ∈ rs.filter (holdsX cs [eqN 1 cs[c]! rs[k]![c]!, eqN 2 cs[c]! rs[k]![c]!] 0), r.length = cs.length ∧ r[c]! = rs[k]![c]!) ∧
    (∀ r ∈ rs.filter (holdsX cs [eqN 1 cs[c]! rs[k]![c]!, eqN 2 cs[c]! rs[k]![c]!] 1), r.length = cs.length ∧ r[c]! ≠ rs[k]![c]!) ∧
    0 < (rs.filter (holdsX cs [eqN 1 cs[c]! rs[k]![c]!, eqN 2 cs[c]! rs[k]![c]!] 0)).length ∧
    (rs.filter (holdsX cs [eqN 1 cs[c]! rs[k]![c]!, eqN 2 cs[c]! rs[k]![c]!] 0)).length + (rs.filter (holdsX cs [eqN 1 cs[c]! rs[k]![c]!, eqN 2 cs[c]! rs[k]![c]!] 1)).length = rs.length := by
  obtain ⟨h1, h2⟩ := chk_cols h
  have hm : rs[k]! ∈ rs := by rw [getElem!_pos rs k hk]; exact List.getElem_mem hk
  have hv := (row_kind (h2 _ hm) hc).2
  generalize hV : rs[k]![c]! = v at *
  have e0 : ∀ r ∈ rs, holdsX cs [eqN 1 cs[c]! v, eqN 2 cs[c]! v] 0 r = decide (r[c]! = v) := fun r hr => eqs_0 hc h1 (h2 r hr) hv
  have e1 : ∀ r ∈ rs, holdsX cs [eqN 1 cs[c]! v, eqN 2 cs[c]! v] 1 r = !decide (r[c]! = v) := fun r hr => eqs_1 hc h1 (h2 r hr) hv
  rw [List.filter_congr e0, List.filter_congr e1]
  refine ⟨fun r hr => ?_, fun r hr => ?_, ?_, ?_⟩
  · obtain ⟨ha, hb⟩ := List.mem_filter.1 hr
    exact ⟨(row_kind (h2 r ha) hc).1, of_decide_eq_true hb⟩
  · obtain ⟨ha, hb⟩ := List.mem_filter.1 hr
    exact ⟨(row_kind (h2 r ha) hc).1, fun e => by rw [e] at hb; simp at hb⟩
  · exact List.length_pos_of_mem (List.mem_filter.2 ⟨hm, by rw [hV]; exact decide_eq_true rfl⟩)
  · clear e0 e1 hm hV hv h2 h hk
    exact filt_two _ rs
end Go.Proofs.Ytopjpkkidjlbeaa.PD
