/-
  What whole comes to.
-/
import Derived.Test.YtomnjckbgmbgmaaGreatDoorQPRl
import Derived.Defers
import Derived.Recover
namespace Go.Proofs.YtomnjckbgmbgmaaGreatDoor
open Go.RowKit Go.Joins

section
variable {B : Nat} {ts : List Tp} {w : World} {rb : Nat} {tv sv : Value} {o i : Nat} {qs : List Nd}
theorem told_nil {w : World} : Calls Tryz.prog 48 #[.nilIface] w fun e w' => e = .returned (.tuple #[.int .i64 0, .int .i64 0]) ∧ w' = w := by
  go_enter Tryz.func48, Tryz.ntmps48
  go_wp2
  go_ret2
  exact ⟨rfl, rfl⟩
set_option maxRecDepth 100000 in
set_option maxHeartbeats 1000000 in
theorem told_err {i : Nat} {c : Int} {w : World} : Calls Tryz.prog 48 #[faultV i c] w fun e w' => e = .returned (.tuple #[.int .i64 (i : Int), .int .i64 c]) ∧ Below w.heap.size w w' := by
  have ta : ∀ w, (Instr.typeAssert (faultV i c) 20 114 true).run Tryz.prog w = .ok (.tuple #[.agg #[.int .i64 (i : Int), .int .i64 c], .bool true]) w := fun w => by kernel_rfl
  go_enter Tryz.func48, Tryz.ntmps48
  go_wp2_with fail
  go_quiet (fail)
  go_wp2_with fail
  go_ret2
  exact ⟨rfl, below_drewN ((Below.refl _ _).alloc (Nat.le_refl _) _) _⟩
theorem catch_panicking {b : Nat} {x y : Value} {i : Nat} {c : Int} {older : List PanicEntry} {w : World} {tx ty : TypeId} (h1 : w.heap[b]? = some (.cells #[x] tx (0, 0))) (h2 : w.heap[b + 1]? = some (.cells #[y] ty (0, 0))) :
    CallsD Tryz.prog 47 #[dp b, dp (b + 1)] (.panicking ({ v := faultV i c, recovered := false } :: older)) w fun e u' w' =>
      e = .returned (.tuple #[]) ∧ u' = .panicking ({ v := faultV i c, recovered := true } :: older) ∧ ∃ w1, Below w.heap.size w w1 ∧ w' = (w1.setCell ⟨b, 0, none⟩ (.int .i64 (i : Int))).setCell ⟨b + 1, 0, none⟩ (.int .i64 c) := by
  refine callsD_of_wpS Tryz.func47 rfl fun c₀ cs hu => ?_
  apply wpS_region
  simp [wpOpsS, go_sem, recoverD, hu, Tryz.ntmps47]
  refine told_err.mono ?_
  rintro e w1 ⟨rfl, hb⟩
  have k1 := block_on h1 hb
  have k2 := block_on h2 hb
  have k3 : ∀ v, (w1.setCell ⟨b, 0, none⟩ v).heap[b + 1]? = some (.cells #[y] ty (0, 0)) := fun v => (Below.heap_setCell _ _ _ _ (by simp)).trans k2
  have c1 : w1.cell? ⟨b, 0, none⟩ = some x := block_cell k1 0
  have c3 : ∀ v, (w1.setCell ⟨b, 0, none⟩ v).cell? ⟨b + 1, 0, none⟩ = some y := fun v => block_cell (k3 v) 0
  have z1 := block_frozen k1 0
  have z3 := fun v => block_frozen (k3 v) 0
  simp [go_sem, c1, z1, c3, z3, bodyPostS, results, Tryz.results47]
  exact ⟨w1, hb, rfl⟩
theorem catch_idle {b : Nat} {x y : Value} {w : World} {tx ty : TypeId} (h1 : w.heap[b]? = some (.cells #[x] tx (0, 0))) (h2 : w.heap[b + 1]? = some (.cells #[y] ty (0, 0))) :
    CallsD Tryz.prog 47 #[dp b, dp (b + 1)] .returning w fun e u' w' => e = .returned (.tuple #[]) ∧ u' = .returning ∧ w' = (w.setCell ⟨b, 0, none⟩ (.int .i64 0)).setCell ⟨b + 1, 0, none⟩ (.int .i64 0) := by
  refine callsD_of_wpS Tryz.func47 rfl fun c₀ cs hu => ?_
  apply wpS_region
  simp [wpOpsS, go_sem, recoverD, hu, Tryz.ntmps47]
  refine told_nil.mono ?_
  rintro e w1 ⟨rfl, rfl⟩
  have k3 : ∀ v, (w1.setCell ⟨b, 0, none⟩ v).heap[b + 1]? = some (.cells #[y] ty (0, 0)) := fun v => (Below.heap_setCell _ _ _ _ (by simp)).trans h2
  have c1 : w1.cell? ⟨b, 0, none⟩ = some x := block_cell h1 0
  have c3 : ∀ v, (w1.setCell ⟨b, 0, none⟩ v).cell? ⟨b + 1, 0, none⟩ = some y := fun v => block_cell (k3 v) 0
  have z1 := block_frozen h1 0
  have z3 := fun v => block_frozen (k3 v) 0
  simp [go_sem, c1, z1, c3, z3, bodyPostS, results, Tryz.results47]
  cases c₀
  simp_all
/- The four blocks of whole. -/
abbrev whW (w : World) (tv : Value) : World := (((w.alloc (.cells #[.slice none 0 0] 27)).alloc (.cells #[.int .i64 0] 3)).alloc (.cells #[.int .i64 0] 28)).alloc (.cells #[tv, .int .i64 0, .int .i64 0, .slice none 0 0] 84)
structure Wh (w : World) (q : Value) (wr : World) : Prop where
  q : wr.heap[w.heap.size]? = some (.cells #[q] 27 (0, 0))
  a : ∃ x, wr.heap[w.heap.size + 1]? = some (.cells #[.int .i64 x] 3 (0, 0))
  e : ∃ x, wr.heap[w.heap.size + 1 + 1]? = some (.cells #[.int .i64 x] 28 (0, 0))
  kept : Below w.heap.size w wr
theorem heap4 (w : World) (a b c d : Obj) : ((((w.alloc a).alloc b).alloc c).alloc d).heap[w.heap.size]? = some a ∧ ((((w.alloc a).alloc b).alloc c).alloc d).heap[w.heap.size + 1]? = some b ∧ ((((w.alloc a).alloc b).alloc c).alloc d).heap[w.heap.size + 1 + 1]? = some c ∧ ((((w.alloc a).alloc b).alloc c).alloc d).heap[w.heap.size + 3]? = some d := by
  have h1 := alloc_block w a
  have h2 := alloc_block (w.alloc a) b
  have h3 := alloc_block ((w.alloc a).alloc b) c
  have h4 := alloc_block (((w.alloc a).alloc b).alloc c) d
  simp only [World.size_alloc] at h2 h3 h4
  refine ⟨?_, ?_, ?_, h4⟩
  · rw [Below.heap_alloc _ _ _ (by simp <;> omega), Below.heap_alloc _ _ _ (by simp <;> omega), Below.heap_alloc _ _ _ (by simp)]; exact h1
  · rw [Below.heap_alloc _ _ _ (by simp <;> omega), Below.heap_alloc _ _ _ (by simp)]; exact h2
  · rw [Below.heap_alloc _ _ _ (by simp)]; exact h3
theorem Wh.start (w : World) (tv : Value) : Wh w (.slice none 0 0) (whW w tv) :=
  ⟨(heap4 w _ _ _ _).1, ⟨_, (heap4 w _ _ _ _).2.1⟩, ⟨_, (heap4 w _ _ _ _).2.2.1⟩, ((((Below.refl _ w).alloc (Nat.le_refl _) _).alloc (by simp) _).alloc (by simp <;> omega) _).alloc (by simp <;> omega) _⟩
theorem Wh.kp {q : Value} {wr w' : World} {T : Nat → Prop} (h : Wh w q wr) (hk : Kp T wr w') (hT : ∀ k, T k → w.heap.size + 3 ≤ k) : Wh w q w' :=
  ⟨hk.blk h.q (fun t => by have := hT _ t; omega), let ⟨x, hx⟩ := h.a; ⟨x, hk.blk hx (fun t => by have := hT _ t; omega)⟩, let ⟨x, hx⟩ := h.e; ⟨x, hk.blk hx (fun t => by have := hT _ t; omega)⟩, h.kept.trans (hk.below h.kept.size (fun k t => by have := hT _ t; omega))⟩
theorem Rq.start (tv : Value) (htok : SlAt (fun b => b < w.heap.size) Tp.cells 4 w tv ts) (htl : ts.length ≤ 1024) : Rq (w.heap.size + 3) ts (whW w tv) (w.heap.size + 3) tv (.slice none 0 0) 0 0 [] :=
  ⟨Nat.le_refl _, (heap4 w _ _ _ _).2.2.2, Own.nil _ _ _ _ _, fun q hq => by simp at hq, (htok.on (Wh.start w tv).kept).imp (fun b hb => by omega), Nat.zero_le _, htl, Nat.zero_le _, by omega⟩
/- What whole returns: a row of nodes of its own. -/
def Nq (n : Nat) (w : World) (v : Value) (ns : List Np) : Prop := ∃ qs, Own Nd.cells 19 52 n w v qs ∧ (∀ q ∈ qs, NdIn n w q) ∧ qs.map (·.np) = ns
def WhP (w : World) (r : List Np × Nat × Int) (e : Ending) (w' : World) : Prop :=
  ∃ v, e = .returned (.tuple #[.agg #[v], .int .i64 (r.2.1 : Int), .int .i64 r.2.2]) ∧ Nq w.heap.size w' v r.1 ∧ Below w.heap.size w w'
theorem Nq.nil (n : Nat) (w : World) : Nq n w (.slice none 0 0) [] := ⟨[], Own.nil _ _ _ _ _, fun q hq => by simp at hq, rfl⟩
theorem Nq.kp {n : Nat} {w w' : World} {v : Value} {ns : List Np} {T : Nat → Prop} (h : Nq n w v ns) (hk : Kp T w w') (hT : ∀ k, T k → k < n) : Nq n w' v ns := by
  obtain ⟨qs, h1, h2, h3⟩ := h
  refine ⟨qs, h1.kp hk (fun g hg ht => by have := hT g ht; have := (h1.at hg).1; omega), fun q hq => ?_, h3⟩
  have hq := h2 q hq
  exact ⟨hq.l.kp hk (fun g hg ht => by have := hT g ht; have := (hq.l.at hg).1; omega), hq.n.kp hk (fun g hg ht => by have := hT g ht; have := (hq.n.at hg).1; omega), hq.g.kp hk (fun g hg ht => by have := hT g ht; have := (hq.g.at hg).1; omega)⟩
theorem Nq.on {n : Nat} {w w' : World} {v : Value} {ns : List Np} (h : Nq n w v ns) (hb : Below w.heap.size w w') : Nq n w' v ns := h.kp (T := fun _ => False) (Kp.of hb) (fun _ h => h.elim)
theorem Nq.le {n m : Nat} {w : World} {v : Value} {ns : List Np} (h : Nq n w v ns) (hm : m ≤ n) : Nq m w v ns := by
  obtain ⟨qs, h1, h2, h3⟩ := h
  exact ⟨qs, h1.le hm, fun q hq => (h2 q hq).le hm, h3⟩
/- Behind the deferred function. -/
structure We (w : World) (q : Value) (x c : Int) (W : World) : Prop where
  q : W.heap[w.heap.size]? = some (.cells #[q] 27 (0, 0))
  a : W.heap[w.heap.size + 1]? = some (.cells #[.int .i64 x] 3 (0, 0))
  e : W.heap[w.heap.size + 1 + 1]? = some (.cells #[.int .i64 c] 28 (0, 0))
  kept : Below w.heap.size w W
theorem We.of {q : Value} {wr w1 : World} (h : Wh w q wr) (hb : Below wr.heap.size wr w1) (x c : Int) : We w q x c ((w1.setCell ⟨w.heap.size + 1, 0, none⟩ (.int .i64 x)).setCell ⟨w.heap.size + 1 + 1, 0, none⟩ (.int .i64 c)) := by
  obtain ⟨xa, ha⟩ := h.a
  obtain ⟨xe, he⟩ := h.e
  have k1 := block_on h.q hb
  have k2 := block_on ha hb
  have k3 := block_on he hb
  refine ⟨?_, ?_, ?_, ?_⟩
  · exact (Below.heap_setCell _ _ _ _ (by simp <;> omega)).trans ((Below.heap_setCell _ _ _ _ (by simp)).trans k1)
  · refine (Below.heap_setCell _ _ _ _ (by simp)).trans ?_
    have := block_set k2 0 (.int .i64 x); simpa using this
  · have k4 : (w1.setCell ⟨w.heap.size + 1, 0, none⟩ (.int .i64 x)).heap[w.heap.size + 1 + 1]? = some (.cells #[.int .i64 xe] 28 (0, 0)) := (Below.heap_setCell _ _ _ _ (by simp)).trans k3
    have := block_set k4 0 (.int .i64 c); simpa using this
  · exact ((h.kept.trans (hb.mono h.kept.size)).setCell (by simp) _).setCell (by simp <;> omega) _
theorem Wh.put {q : Value} {wr : World} (h : Wh w q wr) (v : Value) : Wh w v (((wr.setCell ⟨w.heap.size, 0, none⟩ v).setCell ⟨w.heap.size + 1, 0, none⟩ (.int .i64 0)).setCell ⟨w.heap.size + 1 + 1, 0, none⟩ (.int .i64 0)) := by
  obtain ⟨xa, ha⟩ := h.a
  obtain ⟨xe, he⟩ := h.e
  refine ⟨?_, ⟨0, ?_⟩, ⟨0, ?_⟩, ?_⟩
  · refine (Below.heap_setCell _ _ _ _ (by simp <;> omega)).trans ((Below.heap_setCell _ _ _ _ (by simp)).trans ?_)
    have := block_set h.q 0 v; simpa using this
  · refine (Below.heap_setCell _ _ _ _ (by simp)).trans ?_
    have k : (wr.setCell ⟨w.heap.size, 0, none⟩ v).heap[w.heap.size + 1]? = _ := (Below.heap_setCell _ _ _ _ (by simp)).trans ha
    have := block_set k 0 (.int .i64 0); simpa using this
  · have k : ((wr.setCell ⟨w.heap.size, 0, none⟩ v).setCell ⟨w.heap.size + 1, 0, none⟩ (.int .i64 0)).heap[w.heap.size + 1 + 1]? = _ := (Below.heap_setCell _ _ _ _ (by simp)).trans ((Below.heap_setCell _ _ _ _ (by simp <;> omega)).trans he)
    have := block_set k 0 (.int .i64 0); simpa using this
  · exact ((h.kept.setCell (by simp) _).setCell (by simp) _).setCell (by simp <;> omega) _
theorem tq_nil {n k : Nat} (h : Tq n (.slice none 0 0) k) : k = n := by
  rcases h with h | h
  · exact h
  · cases h
theorem kp2 {n m : Nat} {w1 : World} {x c : Value} (hm : m + 2 < n) : Kp (fun k => k < n) w1 ((w1.setCell ⟨m + 1, 0, none⟩ x).setCell ⟨m + 1 + 1, 0, none⟩ c) :=
  (Kp.set (T := fun k => k < n) (by omega) _).trans (Kp.set (T := fun k => k < n) (by omega) _)
set_option maxRecDepth 100000 in
set_option maxHeartbeats 2000000 in
theorem whole_query {tv : Value} (htok : SlAt (fun b => b < w.heap.size) Tp.cells 4 w tv ts) : Calls Tryz.prog 29 #[tv, .func (.func 30) #[] #[]] w (WhP w (wholeS ts (queryS ts 16))) := by
  obtain ⟨p, cap, rfl, hc1, hc2⟩ := htok.form
  unfold maxLen at hc2
  have hmf := mkf
  by_cases hl : 1024 < ts.length
  · have HS : Hid (wholeS ts (queryS ts 16) = ([], 0, 2)) := by show _ = _; unfold wholeS; rw [if_pos hl]
    have lI : 1024 < (ts.length : Int) := by omega
    clear hl htok
    generalize ts.length = ln at *
    go_enter_defers Tryz.func29, Tryz.ntmps29
    go_wp2_with fail
    simp [bodyPostD, Leaves, results, Tryz.results29, go_sem]
    exact ⟨_, by rw [HS.out]; rfl, by rw [HS.out]; exact Nq.nil _ _, (((Below.refl _ w).alloc (Nat.le_refl _) _).alloc (by simp) _).alloc (by simp; omega) _⟩
  · have HQ := hid (Rq.start (w := w) (.slice p ts.length cap) htok (by omega))
    have HW := hid (Wh.start w (.slice p ts.length cap))
    have HN := hid (query_all (w.heap.size + 3) ts (w.heap.size + 3) (.slice p ts.length cap) 16 0 rfl _ _ _ _ HQ.out)
    have lI : ¬ 1024 < (ts.length : Int) := by omega
    have HSb : ∀ {j : Nat} {c : Int}, queryS ts 16 0 [] = .bad j c → wholeS ts (queryS ts 16) = ([], j, c) := fun h => by unfold wholeS; rw [if_neg hl, h]
    have HSe : ∀ {r : Nat × List Np} {j : Nat}, queryS ts 16 0 [] = .ok r j → j < ts.length → wholeS ts (queryS ts 16) = ([], j, 120) := fun h h2 => by unfold wholeS; rw [if_neg hl, h]; simp [h2]
    have HSn : ∀ {r : Nat × List Np} {j : Nat}, queryS ts 16 0 [] = .ok r j → ¬ j < ts.length → 128 < r.2.length → wholeS ts (queryS ts 16) = ([], 0, 2) := fun h h2 h3 => by unfold wholeS; rw [if_neg hl, h]; simp [h2, h3]
    have HSo : ∀ {r : Nat × List Np} {j : Nat}, queryS ts 16 0 [] = .ok r j → ¬ j < ts.length → ¬ 128 < r.2.length → wholeS ts (queryS ts 16) = (r.2, 0, 0) := fun h h2 h3 => by unfold wholeS; rw [if_neg hl, h]; simp [h2, h3]
    clear hl htok
    generalize hln : ts.length = ln at *
    have HLn := hid hln
    clear hln
    go_enter_defers Tryz.func29, Tryz.ntmps29
    go_wp2_with (first
      | (go_at_call 30; refine HN.out.mono ?_; rintro e w1 ⟨hk, ⟨j, c, hr, rfl⟩ | ⟨r, j, v, sv1, qs1, hr, rfl, rfl, hq, hm, ha⟩⟩; (focus (go_wp2_with fail; have HW1 := hid (HW.out.kp hk (fun k t => by have := tq_nil t; omega)); obtain ⟨xa, ha⟩ := HW1.out.a; obtain ⟨xe, he⟩ := HW1.out.e; refine leaves_cons (f := 47) (args := #[dp (w.heap.size + 1), dp (w.heap.size + 1 + 1)]) (by simp) (by simp [go_sem]) ?_; refine (catch_panicking ha he).mono ?_; rintro e u' w'' ⟨rfl, rfl, wz, hbz, rfl⟩; have HE := hid (We.of HW1.out hbz j c); generalize World.setCell _ _ _ = W at *; have k0 := block_cell HE.out.q; have k1 := block_cell HE.out.a; have k2 := block_cell HE.out.e; simp [Leaves, settle, results, Tryz.results29, go_sem, k0, k1, k2]; exact ⟨_, by rw [HSb hr], by rw [HSb hr]; exact Nq.nil _ _, HE.out.kept⟩)); have HK1 := hid hk; have HQ1 := hid hq; have HR1 := hid hr; have HM1 := hid hm; clear hk hq hr hm ha)
      | (go_at_call 49; refine (end_any HQ1.out).mono ?_; rintro e w2 ⟨hb, ⟨h1, rfl⟩ | ⟨h1, h2, rfl⟩ | ⟨h1, h2, rfl⟩⟩; (focus (go_wp2_with fail; have HW2 := hid ((HW.out.kp HK1.out (fun k t => by have := tq_nil t; omega)).kp (Kp.of (T := fun _ => False) hb) (fun _ h => h.elim)); obtain ⟨xa, ha⟩ := HW2.out.a; obtain ⟨xe, he⟩ := HW2.out.e; refine leaves_cons (f := 47) (args := #[dp (w.heap.size + 1), dp (w.heap.size + 1 + 1)]) (by simp) (by simp [go_sem]) ?_; refine (catch_panicking ha he).mono ?_; rintro e u' w'' ⟨rfl, rfl, wz, hbz, rfl⟩; have HE := hid (We.of HW2.out hbz j 120); generalize World.setCell _ _ _ = W at *; have k0 := block_cell HE.out.q; have k1 := block_cell HE.out.a; have k2 := block_cell HE.out.e; simp [Leaves, settle, results, Tryz.results29, go_sem, k0, k1, k2]; exact ⟨_, by rw [HSe HR1.out (HLn.out ▸ h1)], by rw [HSe HR1.out (HLn.out ▸ h1)]; exact Nq.nil _ _, HE.out.kept⟩)); (focus (go_wp2_with fail; have HW2 := hid ((HW.out.kp HK1.out (fun k t => by have := tq_nil t; omega)).kp (Kp.of (T := fun _ => False) hb) (fun _ h => h.elim)); obtain ⟨xa, ha⟩ := HW2.out.a; obtain ⟨xe, he⟩ := HW2.out.e; refine leaves_cons (f := 47) (args := #[dp (w.heap.size + 1), dp (w.heap.size + 1 + 1)]) (by simp) (by simp [go_sem]) ?_; refine (catch_panicking ha he).mono ?_; rintro e u' w'' ⟨rfl, rfl, wz, hbz, rfl⟩; have HE := hid (We.of HW2.out hbz 0 2); generalize World.setCell _ _ _ = W at *; have k0 := block_cell HE.out.q; have k1 := block_cell HE.out.a; have k2 := block_cell HE.out.e; simp [Leaves, settle, results, Tryz.results29, go_sem, k0, k1, k2]; exact ⟨_, by rw [HSn HR1.out (HLn.out ▸ h1) (by have := congrArg List.length HM1.out; simp at this; omega)]; rfl, by rw [HSn HR1.out (HLn.out ▸ h1) (by have := congrArg List.length HM1.out; simp at this; omega)]; exact Nq.nil _ _, HE.out.kept⟩)); obtain ⟨pv, cv, rfl⟩ := HQ1.out.own.form; have HB := hid hb; have k9 := (HQ1.out.on hb).cell; have HW2 := hid ((HW.out.kp HK1.out (fun k t => by have := tq_nil t; omega)).kp (Kp.of (T := fun _ => False) hb) (fun _ h => h.elim)); obtain ⟨xa, ha⟩ := HW2.out.a; obtain ⟨xe, he⟩ := HW2.out.e; have kq := block_cell HW2.out.q; have zq := block_frozen HW2.out.q; have ka := block_cell ha; have za := block_frozen ha; have ke := block_cell he; have ze := block_frozen he; have H1 := hid h1; have H2 := hid h2; clear hb ha he h1 h2))
    have HP := hid (HW2.out.put (.slice pv qs1.length cv))
    have HNq : Hid (Nq (w.heap.size + 3) w2 (.slice pv qs1.length cv) r.2) := ⟨qs1, (HQ1.out.on HB.out).own, (HQ1.out.on HB.out).each, HM1.out⟩
    have HNp := hid (HNq.out.kp (((Kp.set (T := fun k => k < w.heap.size + 3) (b := w.heap.size) (i := 0) (by omega) (.slice pv qs1.length cv)).trans (Kp.set (T := fun k => k < w.heap.size + 3) (b := w.heap.size + 1) (i := 0) (by omega) (.int .i64 0))).trans (Kp.set (T := fun k => k < w.heap.size + 3) (b := w.heap.size + 1 + 1) (i := 0) (by omega) (.int .i64 0))) (fun k h => h))
    clear HNq
    obtain ⟨ya, ha⟩ := HP.out.a
    obtain ⟨ye, he⟩ := HP.out.e
    refine leaves_cons (f := 47) (args := #[dp (w.heap.size + 1), dp (w.heap.size + 1 + 1)]) (by simp) (by simp [go_sem]) ?_
    refine (catch_idle ha he).mono ?_
    rintro e u' w'' ⟨rfl, rfl, rfl⟩
    have HE := hid (We.of HP.out (Below.refl _ _) 0 0)
    have HNe := hid (HNp.out.kp (kp2 (n := w.heap.size + 3) (m := w.heap.size) (x := .int .i64 0) (c := .int .i64 0) (by omega)) (fun k h => h))
    generalize World.setCell (World.setCell _ _ _) ⟨w.heap.size + 1 + 1, 0, none⟩ _ = W at *
    have k0 := block_cell HE.out.q
    have k1 := block_cell HE.out.a
    have k2 := block_cell HE.out.e
    simp [Leaves, settle, results, Tryz.results29, go_sem, k0, k1, k2]
    have hS := HSo HR1.out (HLn.out ▸ H1.out) (by have e1 := congrArg List.length HM1.out; have e2 := H2.out; simp at e1; omega)
    exact ⟨_, by rw [hS]; rfl, by rw [hS]; exact HNe.out.le (by omega), HE.out.kept⟩
set_option maxRecDepth 100000 in
set_option maxHeartbeats 2000000 in
theorem whole_cond {tv : Value} (htok : SlAt (fun b => b < w.heap.size) Tp.cells 4 w tv ts) : Calls Tryz.prog 29 #[tv, .func (.func 33) #[] #[]] w (WhP w (wholeS ts (condS ts 16))) := by
  obtain ⟨p, cap, rfl, hc1, hc2⟩ := htok.form
  unfold maxLen at hc2
  have hmf := mkf
  by_cases hl : 1024 < ts.length
  · have HS : Hid (wholeS ts (condS ts 16) = ([], 0, 2)) := by show _ = _; unfold wholeS; rw [if_pos hl]
    have lI : 1024 < (ts.length : Int) := by omega
    clear hl htok
    generalize ts.length = ln at *
    go_enter_defers Tryz.func29, Tryz.ntmps29
    go_wp2_with fail
    simp [bodyPostD, Leaves, results, Tryz.results29, go_sem]
    exact ⟨_, by rw [HS.out]; rfl, by rw [HS.out]; exact Nq.nil _ _, (((Below.refl _ w).alloc (Nat.le_refl _) _).alloc (by simp) _).alloc (by simp; omega) _⟩
  · have HQ := hid (Rq.start (w := w) (.slice p ts.length cap) htok (by omega))
    have HW := hid (Wh.start w (.slice p ts.length cap))
    have HN := hid (cond_all (w.heap.size + 3) ts (w.heap.size + 3) (.slice p ts.length cap) 16 0 rfl _ _ _ _ HQ.out)
    have lI : ¬ 1024 < (ts.length : Int) := by omega
    have HSb : ∀ {j : Nat} {c : Int}, condS ts 16 0 [] = .bad j c → wholeS ts (condS ts 16) = ([], j, c) := fun h => by unfold wholeS; rw [if_neg hl, h]
    have HSe : ∀ {r : Nat × List Np} {j : Nat}, condS ts 16 0 [] = .ok r j → j < ts.length → wholeS ts (condS ts 16) = ([], j, 120) := fun h h2 => by unfold wholeS; rw [if_neg hl, h]; simp [h2]
    have HSn : ∀ {r : Nat × List Np} {j : Nat}, condS ts 16 0 [] = .ok r j → ¬ j < ts.length → 128 < r.2.length → wholeS ts (condS ts 16) = ([], 0, 2) := fun h h2 h3 => by unfold wholeS; rw [if_neg hl, h]; simp [h2, h3]
    have HSo : ∀ {r : Nat × List Np} {j : Nat}, condS ts 16 0 [] = .ok r j → ¬ j < ts.length → ¬ 128 < r.2.length → wholeS ts (condS ts 16) = (r.2, 0, 0) := fun h h2 h3 => by unfold wholeS; rw [if_neg hl, h]; simp [h2, h3]
    clear hl htok
    generalize hln : ts.length = ln at *
    have HLn := hid hln
    clear hln
    go_enter_defers Tryz.func29, Tryz.ntmps29
    go_wp2_with (first
      | (go_at_call 33; refine HN.out.mono ?_; rintro e w1 ⟨hk, ⟨j, c, hr, rfl⟩ | ⟨r, j, v, sv1, qs1, hr, rfl, rfl, hq, hm, ha⟩⟩; (focus (go_wp2_with fail; have HW1 := hid (HW.out.kp hk (fun k t => by have := tq_nil t; omega)); obtain ⟨xa, ha⟩ := HW1.out.a; obtain ⟨xe, he⟩ := HW1.out.e; refine leaves_cons (f := 47) (args := #[dp (w.heap.size + 1), dp (w.heap.size + 1 + 1)]) (by simp) (by simp [go_sem]) ?_; refine (catch_panicking ha he).mono ?_; rintro e u' w'' ⟨rfl, rfl, wz, hbz, rfl⟩; have HE := hid (We.of HW1.out hbz j c); generalize World.setCell _ _ _ = W at *; have k0 := block_cell HE.out.q; have k1 := block_cell HE.out.a; have k2 := block_cell HE.out.e; simp [Leaves, settle, results, Tryz.results29, go_sem, k0, k1, k2]; exact ⟨_, by rw [HSb hr], by rw [HSb hr]; exact Nq.nil _ _, HE.out.kept⟩)); have HK1 := hid hk; have HQ1 := hid hq; have HR1 := hid hr; have HM1 := hid hm; clear hk hq hr hm ha)
      | (go_at_call 49; refine (end_any HQ1.out).mono ?_; rintro e w2 ⟨hb, ⟨h1, rfl⟩ | ⟨h1, h2, rfl⟩ | ⟨h1, h2, rfl⟩⟩; (focus (go_wp2_with fail; have HW2 := hid ((HW.out.kp HK1.out (fun k t => by have := tq_nil t; omega)).kp (Kp.of (T := fun _ => False) hb) (fun _ h => h.elim)); obtain ⟨xa, ha⟩ := HW2.out.a; obtain ⟨xe, he⟩ := HW2.out.e; refine leaves_cons (f := 47) (args := #[dp (w.heap.size + 1), dp (w.heap.size + 1 + 1)]) (by simp) (by simp [go_sem]) ?_; refine (catch_panicking ha he).mono ?_; rintro e u' w'' ⟨rfl, rfl, wz, hbz, rfl⟩; have HE := hid (We.of HW2.out hbz j 120); generalize World.setCell _ _ _ = W at *; have k0 := block_cell HE.out.q; have k1 := block_cell HE.out.a; have k2 := block_cell HE.out.e; simp [Leaves, settle, results, Tryz.results29, go_sem, k0, k1, k2]; exact ⟨_, by rw [HSe HR1.out (HLn.out ▸ h1)], by rw [HSe HR1.out (HLn.out ▸ h1)]; exact Nq.nil _ _, HE.out.kept⟩)); (focus (go_wp2_with fail; have HW2 := hid ((HW.out.kp HK1.out (fun k t => by have := tq_nil t; omega)).kp (Kp.of (T := fun _ => False) hb) (fun _ h => h.elim)); obtain ⟨xa, ha⟩ := HW2.out.a; obtain ⟨xe, he⟩ := HW2.out.e; refine leaves_cons (f := 47) (args := #[dp (w.heap.size + 1), dp (w.heap.size + 1 + 1)]) (by simp) (by simp [go_sem]) ?_; refine (catch_panicking ha he).mono ?_; rintro e u' w'' ⟨rfl, rfl, wz, hbz, rfl⟩; have HE := hid (We.of HW2.out hbz 0 2); generalize World.setCell _ _ _ = W at *; have k0 := block_cell HE.out.q; have k1 := block_cell HE.out.a; have k2 := block_cell HE.out.e; simp [Leaves, settle, results, Tryz.results29, go_sem, k0, k1, k2]; exact ⟨_, by rw [HSn HR1.out (HLn.out ▸ h1) (by have := congrArg List.length HM1.out; simp at this; omega)]; rfl, by rw [HSn HR1.out (HLn.out ▸ h1) (by have := congrArg List.length HM1.out; simp at this; omega)]; exact Nq.nil _ _, HE.out.kept⟩)); obtain ⟨pv, cv, rfl⟩ := HQ1.out.own.form; have HB := hid hb; have k9 := (HQ1.out.on hb).cell; have HW2 := hid ((HW.out.kp HK1.out (fun k t => by have := tq_nil t; omega)).kp (Kp.of (T := fun _ => False) hb) (fun _ h => h.elim)); obtain ⟨xa, ha⟩ := HW2.out.a; obtain ⟨xe, he⟩ := HW2.out.e; have kq := block_cell HW2.out.q; have zq := block_frozen HW2.out.q; have ka := block_cell ha; have za := block_frozen ha; have ke := block_cell he; have ze := block_frozen he; have H1 := hid h1; have H2 := hid h2; clear hb ha he h1 h2))
    have HP := hid (HW2.out.put (.slice pv qs1.length cv))
    have HNq : Hid (Nq (w.heap.size + 3) w2 (.slice pv qs1.length cv) r.2) := ⟨qs1, (HQ1.out.on HB.out).own, (HQ1.out.on HB.out).each, HM1.out⟩
    have HNp := hid (HNq.out.kp (((Kp.set (T := fun k => k < w.heap.size + 3) (b := w.heap.size) (i := 0) (by omega) (.slice pv qs1.length cv)).trans (Kp.set (T := fun k => k < w.heap.size + 3) (b := w.heap.size + 1) (i := 0) (by omega) (.int .i64 0))).trans (Kp.set (T := fun k => k < w.heap.size + 3) (b := w.heap.size + 1 + 1) (i := 0) (by omega) (.int .i64 0))) (fun k h => h))
    clear HNq
    obtain ⟨ya, ha⟩ := HP.out.a
    obtain ⟨ye, he⟩ := HP.out.e
    refine leaves_cons (f := 47) (args := #[dp (w.heap.size + 1), dp (w.heap.size + 1 + 1)]) (by simp) (by simp [go_sem]) ?_
    refine (catch_idle ha he).mono ?_
    rintro e u' w'' ⟨rfl, rfl, rfl⟩
    have HE := hid (We.of HP.out (Below.refl _ _) 0 0)
    have HNe := hid (HNp.out.kp (kp2 (n := w.heap.size + 3) (m := w.heap.size) (x := .int .i64 0) (c := .int .i64 0) (by omega)) (fun k h => h))
    generalize World.setCell (World.setCell _ _ _) ⟨w.heap.size + 1 + 1, 0, none⟩ _ = W at *
    have k0 := block_cell HE.out.q
    have k1 := block_cell HE.out.a
    have k2 := block_cell HE.out.e
    simp [Leaves, settle, results, Tryz.results29, go_sem, k0, k1, k2]
    have hS := HSo HR1.out (HLn.out ▸ H1.out) (by have e1 := congrArg List.length HM1.out; have e2 := H2.out; simp at e1; omega)
    exact ⟨_, by rw [hS]; rfl, by rw [hS]; exact HNe.out.le (by omega), HE.out.kept⟩
end
end Go.Proofs.YtomnjckbgmbgmaaGreatDoor
