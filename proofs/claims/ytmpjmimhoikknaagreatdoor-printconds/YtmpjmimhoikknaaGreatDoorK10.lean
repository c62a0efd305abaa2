/-
  What whole comes to.
  DERIVED: THE SHELF's CONTRACTS AT THIS DUMP, IN PLAIN WORDS (tools/lay-plain.mjs out of 'TrydShelf.lean', which tools/lay-shelf.mjs wrote): THE SAME DECLARATIONS UNDER THE SAME NAMES: 'import', 'namespace', 'open', 'def', 'theorem' AND NOTHING ELSE: no command of the shelf's: FOR A HAND-IN. Each laying: the table of numbers ('.._ren') and one theorem, a field a fact of the dump's own or the kernel's comparison; each contract: ONE APPLICATION.
  What number returns: the digits of a number, what strconv.ParseInt makes of them.
-/
import Derived.Test.YtmpjmimhoikknaaGreatDoorProg
import Derived.Test.YtmpjmimhoikknaaGreatDoorK01
import Derived.Test.YtmpjmimhoikknaaGreatDoorK09
import Derived.Defers
import Derived.Recover
import Derived.Shelf.LaysC
import Derived.Shelf.Strconv.ParseIntPublic10
import Derived.Lib.ParseIntB
import Derived.Lib.ConvBytes
namespace Go.Proofs.YtmpjmimhoikknaaGreatDoor
open Go.RowKit Go.Joins

section
variable {B : Nat} {ts : List Tp} {w : World} {rb : Nat} {tv sv : Value} {o i : Nat} {qs : List Nd}
theorem told_nil {w : World} : Calls Tryz.prog 106 #[.nilIface] w fun e w' => e = .returned (.tuple #[.int .i64 0, .int .i64 0]) ∧ w' = w := by
  go_enter Tryz.func106, Tryz.ntmps106
  go_wp2
  go_ret2
  exact ⟨rfl, rfl⟩
set_option maxRecDepth 100000 in
set_option maxHeartbeats 1000000 in
theorem told_err {i : Nat} {c : Int} {w : World} : Calls Tryz.prog 106 #[faultV i c] w fun e w' => e = .returned (.tuple #[.int .i64 (i : Int), .int .i64 c]) ∧ Below w.heap.size w w' := by
  have ta : ∀ w, (Instr.typeAssert (faultV i c) 20 172 true).run Tryz.prog w = .ok (.tuple #[.agg #[.int .i64 (i : Int), .int .i64 c], .bool true]) w := fun w => by kernel_rfl
  go_enter Tryz.func106, Tryz.ntmps106
  go_wp2_with fail
  go_quiet (fail)
  go_wp2_with fail
  go_ret2
  exact ⟨rfl, below_drewN ((Below.refl _ _).alloc (Nat.le_refl _) _) _⟩
theorem catch_panicking {b : Nat} {x y : Value} {i : Nat} {c : Int} {older : List PanicEntry} {w : World} {tx ty : TypeId} (h1 : w.heap[b]? = some (.cells #[x] tx (0, 0))) (h2 : w.heap[b + 1]? = some (.cells #[y] ty (0, 0))) :
    CallsD Tryz.prog 105 #[dp b, dp (b + 1)] (.panicking ({ v := faultV i c, recovered := false } :: older)) w fun e u' w' =>
      e = .returned (.tuple #[]) ∧ u' = .panicking ({ v := faultV i c, recovered := true } :: older) ∧ ∃ w1, Below w.heap.size w w1 ∧ w' = (w1.setCell ⟨b, 0, none⟩ (.int .i64 (i : Int))).setCell ⟨b + 1, 0, none⟩ (.int .i64 c) := by
  refine callsD_of_wpS Tryz.func105 rfl fun c₀ cs hu => ?_
  apply wpS_region
  simp [wpOpsS, go_sem, recoverD, hu, Tryz.ntmps105]
  refine told_err.mono ?_
  rintro e w1 ⟨rfl, hb⟩
  have k1 := block_on h1 hb
  have k2 := block_on h2 hb
  have k3 : ∀ v, (w1.setCell ⟨b, 0, none⟩ v).heap[b + 1]? = some (.cells #[y] ty (0, 0)) := fun v => (Below.heap_setCell _ _ _ _ (by simp)).trans k2
  have c1 : w1.cell? ⟨b, 0, none⟩ = some x := block_cell k1 0
  have c3 : ∀ v, (w1.setCell ⟨b, 0, none⟩ v).cell? ⟨b + 1, 0, none⟩ = some y := fun v => block_cell (k3 v) 0
  have z1 := block_frozen k1 0
  have z3 := fun v => block_frozen (k3 v) 0
  simp [go_sem, c1, z1, c3, z3, bodyPostS, results, Tryz.results105]
  exact ⟨w1, hb, rfl⟩
theorem catch_idle {b : Nat} {x y : Value} {w : World} {tx ty : TypeId} (h1 : w.heap[b]? = some (.cells #[x] tx (0, 0))) (h2 : w.heap[b + 1]? = some (.cells #[y] ty (0, 0))) :
    CallsD Tryz.prog 105 #[dp b, dp (b + 1)] .returning w fun e u' w' => e = .returned (.tuple #[]) ∧ u' = .returning ∧ w' = (w.setCell ⟨b, 0, none⟩ (.int .i64 0)).setCell ⟨b + 1, 0, none⟩ (.int .i64 0) := by
  refine callsD_of_wpS Tryz.func105 rfl fun c₀ cs hu => ?_
  apply wpS_region
  simp [wpOpsS, go_sem, recoverD, hu, Tryz.ntmps105]
  refine told_nil.mono ?_
  rintro e w1 ⟨rfl, rfl⟩
  have k3 : ∀ v, (w1.setCell ⟨b, 0, none⟩ v).heap[b + 1]? = some (.cells #[y] ty (0, 0)) := fun v => (Below.heap_setCell _ _ _ _ (by simp)).trans h2
  have c1 : w1.cell? ⟨b, 0, none⟩ = some x := block_cell h1 0
  have c3 : ∀ v, (w1.setCell ⟨b, 0, none⟩ v).cell? ⟨b + 1, 0, none⟩ = some y := fun v => block_cell (k3 v) 0
  have z1 := block_frozen h1 0
  have z3 := fun v => block_frozen (k3 v) 0
  simp [go_sem, c1, z1, c3, z3, bodyPostS, results, Tryz.results105]
  cases c₀
  simp_all
/- The four blocks of whole. -/
abbrev whW (w : World) (tv : Value) : World := (((w.alloc (.cells #[.slice none 0 0] 24)).alloc (.cells #[.int .i64 0] 3)).alloc (.cells #[.int .i64 0] 27)).alloc (.cells #[tv, .int .i64 0, .int .i64 0, .slice none 0 0] 151)
structure Wh (w : World) (q : Value) (wr : World) : Prop where
  q : wr.heap[w.heap.size]? = some (.cells #[q] 24 (0, 0))
  a : ∃ x, wr.heap[w.heap.size + 1]? = some (.cells #[.int .i64 x] 3 (0, 0))
  e : ∃ x, wr.heap[w.heap.size + 1 + 1]? = some (.cells #[.int .i64 x] 27 (0, 0))
  kept : Below w.heap.size w wr
theorem heap4 (w : World) (a b c d : Obj) : ((((w.alloc a).alloc b).alloc c).alloc d).heap[w.heap.size]? = some a ∧ ((((w.alloc a).alloc b).alloc c).alloc d).heap[w.heap.size + 1]? = some b ∧ ((((w.alloc a).alloc b).alloc c).alloc d).heap[w.heap.size + 1 + 1]? = some c ∧ ((((w.alloc a).alloc b).alloc c).alloc d).heap[w.heap.size + 3]? = some d := by
  have h1 := alloc_block w a
  have h2 := alloc_block (w.alloc a) b
  have h3 := alloc_block ((w.alloc a).alloc b) c
  have h4 := alloc_block (((w.alloc a).alloc b).alloc c) d
  simp only [World.size_alloc] at h2 h3 h4
  refine ⟨?_, ?_, ?_, h4⟩
  · rw [Below.heap_alloc _ _ _ (by simp <;> omega), Below.heap_alloc _ _ _ (by simp <;> omega), Below.heap_alloc _ _ _ (by simp)]; exact h1
  · rw [Below.heap_alloc _ _ _ (by simp <;> omega), Below.heap_alloc _ _ _ (by simp)]; exact h2
  · rw [Below.heap_alloc _ _ _ (by simp)]; exact h3
theorem Wh.start (w : World) (tv : Value) : Wh w (.slice none 0 0) (whW w tv) :=
  ⟨(heap4 w _ _ _ _).1, ⟨_, (heap4 w _ _ _ _).2.1⟩, ⟨_, (heap4 w _ _ _ _).2.2.1⟩, ((((Below.refl _ w).alloc (Nat.le_refl _) _).alloc (by simp) _).alloc (by simp <;> omega) _).alloc (by simp <;> omega) _⟩
theorem Wh.kp {q : Value} {wr w' : World} {T : Nat → Prop} (h : Wh w q wr) (hk : Kp T wr w') (hT : ∀ k, T k → w.heap.size + 3 ≤ k) : Wh w q w' :=
  ⟨hk.blk h.q (fun t => by have := hT _ t; omega), let ⟨x, hx⟩ := h.a; ⟨x, hk.blk hx (fun t => by have := hT _ t; omega)⟩, let ⟨x, hx⟩ := h.e; ⟨x, hk.blk hx (fun t => by have := hT _ t; omega)⟩, h.kept.trans (hk.below h.kept.size (fun k t => by have := hT _ t; omega))⟩
theorem Rq.start (tv : Value) (htok : SlAt (fun b => b < w.heap.size) Tp.cells 4 w tv ts) (htl : ts.length ≤ 1024) : Rq (w.heap.size + 3) ts (whW w tv) (w.heap.size + 3) tv (.slice none 0 0) 0 0 [] :=
  ⟨Nat.le_refl _, (heap4 w _ _ _ _).2.2.2, Own.nil _ _ _ _ _, fun q hq => by simp at hq, (htok.on (Wh.start w tv).kept).imp (fun b hb => by omega), Nat.zero_le _, htl, Nat.zero_le _, by omega⟩
/- What whole returns: a row of nodes of its own. -/
def Nq (n : Nat) (w : World) (v : Value) (ns : List Np) : Prop := ∃ qs, Own Nd.cells 19 44 n w v qs ∧ (∀ q ∈ qs, NdIn n w q) ∧ qs.map (·.np) = ns
def WhP (w : World) (r : List Np × Nat × Int) (e : Ending) (w' : World) : Prop :=
  ∃ v, e = .returned (.tuple #[.agg #[v], .int .i64 (r.2.1 : Int), .int .i64 r.2.2]) ∧ Nq w.heap.size w' v r.1 ∧ Below w.heap.size w w'
theorem Nq.nil (n : Nat) (w : World) : Nq n w (.slice none 0 0) [] := ⟨[], Own.nil _ _ _ _ _, fun q hq => by simp at hq, rfl⟩
theorem Nq.kp {n : Nat} {w w' : World} {v : Value} {ns : List Np} {T : Nat → Prop} (h : Nq n w v ns) (hk : Kp T w w') (hT : ∀ k, T k → k < n) : Nq n w' v ns := by
  obtain ⟨qs, h1, h2, h3⟩ := h
  refine ⟨qs, h1.kp hk (fun g hg ht => by have := hT g ht; have := (h1.at hg).1; omega), fun q hq => ?_, h3⟩
  have hq := h2 q hq
  exact ⟨hq.l.kp hk (fun g hg ht => by have := hT g ht; have := (hq.l.at hg).1; omega), hq.n.kp hk (fun g hg ht => by have := hT g ht; have := (hq.n.at hg).1; omega), hq.g.kp hk (fun g hg ht => by have := hT g ht; have := (hq.g.at hg).1; omega)⟩
theorem Nq.on {n : Nat} {w w' : World} {v : Value} {ns : List Np} (h : Nq n w v ns) (hb : Below w.heap.size w w') : Nq n w' v ns := h.kp (T := fun _ => False) (Kp.of hb) (fun _ h => h.elim)
theorem Nq.le {n m : Nat} {w : World} {v : Value} {ns : List Np} (h : Nq n w v ns) (hm : m ≤ n) : Nq m w v ns := by
  obtain ⟨qs, h1, h2, h3⟩ := h
  exact ⟨qs, h1.le hm, fun q hq => (h2 q hq).le hm, h3⟩
/- Behind the deferred function. -/
structure We (w : World) (q : Value) (x c : Int) (W : World) : Prop where
  q : W.heap[w.heap.size]? = some (.cells #[q] 24 (0, 0))
  a : W.heap[w.heap.size + 1]? = some (.cells #[.int .i64 x] 3 (0, 0))
  e : W.heap[w.heap.size + 1 + 1]? = some (.cells #[.int .i64 c] 27 (0, 0))
  kept : Below w.heap.size w W
theorem We.of {q : Value} {wr w1 : World} (h : Wh w q wr) (hb : Below wr.heap.size wr w1) (x c : Int) : We w q x c ((w1.setCell ⟨w.heap.size + 1, 0, none⟩ (.int .i64 x)).setCell ⟨w.heap.size + 1 + 1, 0, none⟩ (.int .i64 c)) := by
  obtain ⟨xa, ha⟩ := h.a
  obtain ⟨xe, he⟩ := h.e
  have k1 := block_on h.q hb
  have k2 := block_on ha hb
  have k3 := block_on he hb
  refine ⟨?_, ?_, ?_, ?_⟩
  · exact (Below.heap_setCell _ _ _ _ (by simp <;> omega)).trans ((Below.heap_setCell _ _ _ _ (by simp)).trans k1)
  · refine (Below.heap_setCell _ _ _ _ (by simp)).trans ?_
    have := block_set k2 0 (.int .i64 x); simpa using this
  · have k4 : (w1.setCell ⟨w.heap.size + 1, 0, none⟩ (.int .i64 x)).heap[w.heap.size + 1 + 1]? = some (.cells #[.int .i64 xe] 27 (0, 0)) := (Below.heap_setCell _ _ _ _ (by simp)).trans k3
    have := block_set k4 0 (.int .i64 c); simpa using this
  · exact ((h.kept.trans (hb.mono h.kept.size)).setCell (by simp) _).setCell (by simp <;> omega) _
theorem Wh.put {q : Value} {wr : World} (h : Wh w q wr) (v : Value) : Wh w v (((wr.setCell ⟨w.heap.size, 0, none⟩ v).setCell ⟨w.heap.size + 1, 0, none⟩ (.int .i64 0)).setCell ⟨w.heap.size + 1 + 1, 0, none⟩ (.int .i64 0)) := by
  obtain ⟨xa, ha⟩ := h.a
  obtain ⟨xe, he⟩ := h.e
  refine ⟨?_, ⟨0, ?_⟩, ⟨0, ?_⟩, ?_⟩
  · refine (Below.heap_setCell _ _ _ _ (by simp <;> omega)).trans ((Below.heap_setCell _ _ _ _ (by simp)).trans ?_)
    have := block_set h.q 0 v; simpa using this
  · refine (Below.heap_setCell _ _ _ _ (by simp)).trans ?_
    have k : (wr.setCell ⟨w.heap.size, 0, none⟩ v).heap[w.heap.size + 1]? = _ := (Below.heap_setCell _ _ _ _ (by simp)).trans ha
    have := block_set k 0 (.int .i64 0); simpa using this
  · have k : ((wr.setCell ⟨w.heap.size, 0, none⟩ v).setCell ⟨w.heap.size + 1, 0, none⟩ (.int .i64 0)).heap[w.heap.size + 1 + 1]? = _ := (Below.heap_setCell _ _ _ _ (by simp)).trans ((Below.heap_setCell _ _ _ _ (by simp <;> omega)).trans he)
    have := block_set k 0 (.int .i64 0); simpa using this
  · exact ((h.kept.setCell (by simp) _).setCell (by simp) _).setCell (by simp <;> omega) _
theorem tq_nil {n k : Nat} (h : Tq n (.slice none 0 0) k) : k = n := by
  rcases h with h | h
  · exact h
  · cases h
theorem kp2 {n m : Nat} {w1 : World} {x c : Value} (hm : m + 2 < n) : Kp (fun k => k < n) w1 ((w1.setCell ⟨m + 1, 0, none⟩ x).setCell ⟨m + 1 + 1, 0, none⟩ c) :=
  (Kp.set (T := fun k => k < n) (by omega) _).trans (Kp.set (T := fun k => k < n) (by omega) _)
set_option maxRecDepth 100000 in
set_option maxHeartbeats 2000000 in
theorem whole_query {tv : Value} (htok : SlAt (fun b => b < w.heap.size) Tp.cells 4 w tv ts) : Calls Tryz.prog 67 #[tv, .func (.func 68) #[] #[]] w (WhP w (wholeS ts (queryS ts 16))) := by
  obtain ⟨p, cap, rfl, hc1, hc2⟩ := htok.form
  unfold maxLen at hc2
  have hmf := mkf
  by_cases hl : 1024 < ts.length
  · have HS : Hid (wholeS ts (queryS ts 16) = ([], 0, 2)) := by show _ = _; unfold wholeS; rw [if_pos hl]
    have lI : 1024 < (ts.length : Int) := by omega
    clear hl htok
    generalize ts.length = ln at *
    go_enter_defers Tryz.func67, Tryz.ntmps67
    go_wp2_with fail
    simp [bodyPostD, Leaves, results, Tryz.results67, go_sem]
    exact ⟨_, by rw [HS.out]; rfl, by rw [HS.out]; exact Nq.nil _ _, (((Below.refl _ w).alloc (Nat.le_refl _) _).alloc (by simp) _).alloc (by simp; omega) _⟩
  · have HQ := hid (Rq.start (w := w) (.slice p ts.length cap) htok (by omega))
    have HW := hid (Wh.start w (.slice p ts.length cap))
    have HN := hid (query_all (w.heap.size + 3) ts (w.heap.size + 3) (.slice p ts.length cap) 16 0 rfl _ _ _ _ HQ.out)
    have lI : ¬ 1024 < (ts.length : Int) := by omega
    have HSb : ∀ {j : Nat} {c : Int}, queryS ts 16 0 [] = .bad j c → wholeS ts (queryS ts 16) = ([], j, c) := fun h => by unfold wholeS; rw [if_neg hl, h]
    have HSe : ∀ {r : Nat × List Np} {j : Nat}, queryS ts 16 0 [] = .ok r j → j < ts.length → wholeS ts (queryS ts 16) = ([], j, 120) := fun h h2 => by unfold wholeS; rw [if_neg hl, h]; simp [h2]
    have HSn : ∀ {r : Nat × List Np} {j : Nat}, queryS ts 16 0 [] = .ok r j → ¬ j < ts.length → 128 < r.2.length → wholeS ts (queryS ts 16) = ([], 0, 2) := fun h h2 h3 => by unfold wholeS; rw [if_neg hl, h]; simp [h2, h3]
    have HSo : ∀ {r : Nat × List Np} {j : Nat}, queryS ts 16 0 [] = .ok r j → ¬ j < ts.length → ¬ 128 < r.2.length → wholeS ts (queryS ts 16) = (r.2, 0, 0) := fun h h2 h3 => by unfold wholeS; rw [if_neg hl, h]; simp [h2, h3]
    clear hl htok
    generalize hln : ts.length = ln at *
    have HLn := hid hln
    clear hln
    go_enter_defers Tryz.func67, Tryz.ntmps67
    go_wp2_with (first
      | (go_at_call 68; refine HN.out.mono ?_; rintro e w1 ⟨hk, ⟨j, c, hr, rfl⟩ | ⟨r, j, v, sv1, qs1, hr, rfl, rfl, hq, hm, ha⟩⟩; (focus (go_wp2_with fail; have HW1 := hid (HW.out.kp hk (fun k t => by have := tq_nil t; omega)); obtain ⟨xa, ha⟩ := HW1.out.a; obtain ⟨xe, he⟩ := HW1.out.e; refine leaves_cons (f := 105) (args := #[dp (w.heap.size + 1), dp (w.heap.size + 1 + 1)]) (by simp) (by simp [go_sem]) ?_; refine (catch_panicking ha he).mono ?_; rintro e u' w'' ⟨rfl, rfl, wz, hbz, rfl⟩; have HE := hid (We.of HW1.out hbz j c); generalize World.setCell _ _ _ = W at *; have k0 := block_cell HE.out.q; have k1 := block_cell HE.out.a; have k2 := block_cell HE.out.e; simp [Leaves, settle, results, Tryz.results67, go_sem, k0, k1, k2]; exact ⟨_, by rw [HSb hr], by rw [HSb hr]; exact Nq.nil _ _, HE.out.kept⟩)); have HK1 := hid hk; have HQ1 := hid hq; have HR1 := hid hr; have HM1 := hid hm; clear hk hq hr hm ha)
      | (go_at_call 107; refine (end_any HQ1.out).mono ?_; rintro e w2 ⟨hb, ⟨h1, rfl⟩ | ⟨h1, h2, rfl⟩ | ⟨h1, h2, rfl⟩⟩; (focus (go_wp2_with fail; have HW2 := hid ((HW.out.kp HK1.out (fun k t => by have := tq_nil t; omega)).kp (Kp.of (T := fun _ => False) hb) (fun _ h => h.elim)); obtain ⟨xa, ha⟩ := HW2.out.a; obtain ⟨xe, he⟩ := HW2.out.e; refine leaves_cons (f := 105) (args := #[dp (w.heap.size + 1), dp (w.heap.size + 1 + 1)]) (by simp) (by simp [go_sem]) ?_; refine (catch_panicking ha he).mono ?_; rintro e u' w'' ⟨rfl, rfl, wz, hbz, rfl⟩; have HE := hid (We.of HW2.out hbz j 120); generalize World.setCell _ _ _ = W at *; have k0 := block_cell HE.out.q; have k1 := block_cell HE.out.a; have k2 := block_cell HE.out.e; simp [Leaves, settle, results, Tryz.results67, go_sem, k0, k1, k2]; exact ⟨_, by rw [HSe HR1.out (HLn.out ▸ h1)], by rw [HSe HR1.out (HLn.out ▸ h1)]; exact Nq.nil _ _, HE.out.kept⟩)); (focus (go_wp2_with fail; have HW2 := hid ((HW.out.kp HK1.out (fun k t => by have := tq_nil t; omega)).kp (Kp.of (T := fun _ => False) hb) (fun _ h => h.elim)); obtain ⟨xa, ha⟩ := HW2.out.a; obtain ⟨xe, he⟩ := HW2.out.e; refine leaves_cons (f := 105) (args := #[dp (w.heap.size + 1), dp (w.heap.size + 1 + 1)]) (by simp) (by simp [go_sem]) ?_; refine (catch_panicking ha he).mono ?_; rintro e u' w'' ⟨rfl, rfl, wz, hbz, rfl⟩; have HE := hid (We.of HW2.out hbz 0 2); generalize World.setCell _ _ _ = W at *; have k0 := block_cell HE.out.q; have k1 := block_cell HE.out.a; have k2 := block_cell HE.out.e; simp [Leaves, settle, results, Tryz.results67, go_sem, k0, k1, k2]; exact ⟨_, by rw [HSn HR1.out (HLn.out ▸ h1) (by have := congrArg List.length HM1.out; simp at this; omega)]; rfl, by rw [HSn HR1.out (HLn.out ▸ h1) (by have := congrArg List.length HM1.out; simp at this; omega)]; exact Nq.nil _ _, HE.out.kept⟩)); obtain ⟨pv, cv, rfl⟩ := HQ1.out.own.form; have HB := hid hb; have k9 := (HQ1.out.on hb).cell; have HW2 := hid ((HW.out.kp HK1.out (fun k t => by have := tq_nil t; omega)).kp (Kp.of (T := fun _ => False) hb) (fun _ h => h.elim)); obtain ⟨xa, ha⟩ := HW2.out.a; obtain ⟨xe, he⟩ := HW2.out.e; have kq := block_cell HW2.out.q; have zq := block_frozen HW2.out.q; have ka := block_cell ha; have za := block_frozen ha; have ke := block_cell he; have ze := block_frozen he; have H1 := hid h1; have H2 := hid h2; clear hb ha he h1 h2))
    have HP := hid (HW2.out.put (.slice pv qs1.length cv))
    have HNq : Hid (Nq (w.heap.size + 3) w2 (.slice pv qs1.length cv) r.2) := ⟨qs1, (HQ1.out.on HB.out).own, (HQ1.out.on HB.out).each, HM1.out⟩
    have HNp := hid (HNq.out.kp (((Kp.set (T := fun k => k < w.heap.size + 3) (b := w.heap.size) (i := 0) (by omega) (.slice pv qs1.length cv)).trans (Kp.set (T := fun k => k < w.heap.size + 3) (b := w.heap.size + 1) (i := 0) (by omega) (.int .i64 0))).trans (Kp.set (T := fun k => k < w.heap.size + 3) (b := w.heap.size + 1 + 1) (i := 0) (by omega) (.int .i64 0))) (fun k h => h))
    clear HNq
    obtain ⟨ya, ha⟩ := HP.out.a
    obtain ⟨ye, he⟩ := HP.out.e
    refine leaves_cons (f := 105) (args := #[dp (w.heap.size + 1), dp (w.heap.size + 1 + 1)]) (by simp) (by simp [go_sem]) ?_
    refine (catch_idle ha he).mono ?_
    rintro e u' w'' ⟨rfl, rfl, rfl⟩
    have HE := hid (We.of HP.out (Below.refl _ _) 0 0)
    have HNe := hid (HNp.out.kp (kp2 (n := w.heap.size + 3) (m := w.heap.size) (x := .int .i64 0) (c := .int .i64 0) (by omega)) (fun k h => h))
    generalize World.setCell (World.setCell _ _ _) ⟨w.heap.size + 1 + 1, 0, none⟩ _ = W at *
    have k0 := block_cell HE.out.q
    have k1 := block_cell HE.out.a
    have k2 := block_cell HE.out.e
    simp [Leaves, settle, results, Tryz.results67, go_sem, k0, k1, k2]
    have hS := HSo HR1.out (HLn.out ▸ H1.out) (by have e1 := congrArg List.length HM1.out; have e2 := H2.out; simp at e1; omega)
    exact ⟨_, by rw [hS]; rfl, by rw [hS]; exact HNe.out.le (by omega), HE.out.kept⟩
set_option maxRecDepth 100000 in
set_option maxHeartbeats 2000000 in
theorem whole_cond {tv : Value} (htok : SlAt (fun b => b < w.heap.size) Tp.cells 4 w tv ts) : Calls Tryz.prog 67 #[tv, .func (.func 210) #[] #[]] w (WhP w (wholeS ts (condS ts 16))) := by
  obtain ⟨p, cap, rfl, hc1, hc2⟩ := htok.form
  unfold maxLen at hc2
  have hmf := mkf
  by_cases hl : 1024 < ts.length
  · have HS : Hid (wholeS ts (condS ts 16) = ([], 0, 2)) := by show _ = _; unfold wholeS; rw [if_pos hl]
    have lI : 1024 < (ts.length : Int) := by omega
    clear hl htok
    generalize ts.length = ln at *
    go_enter_defers Tryz.func67, Tryz.ntmps67
    go_wp2_with fail
    simp [bodyPostD, Leaves, results, Tryz.results67, go_sem]
    exact ⟨_, by rw [HS.out]; rfl, by rw [HS.out]; exact Nq.nil _ _, (((Below.refl _ w).alloc (Nat.le_refl _) _).alloc (by simp) _).alloc (by simp; omega) _⟩
  · have HQ := hid (Rq.start (w := w) (.slice p ts.length cap) htok (by omega))
    have HW := hid (Wh.start w (.slice p ts.length cap))
    have HN := hid (cond_all (w.heap.size + 3) ts (w.heap.size + 3) (.slice p ts.length cap) 16 0 rfl _ _ _ _ HQ.out)
    have lI : ¬ 1024 < (ts.length : Int) := by omega
    have HSb : ∀ {j : Nat} {c : Int}, condS ts 16 0 [] = .bad j c → wholeS ts (condS ts 16) = ([], j, c) := fun h => by unfold wholeS; rw [if_neg hl, h]
    have HSe : ∀ {r : Nat × List Np} {j : Nat}, condS ts 16 0 [] = .ok r j → j < ts.length → wholeS ts (condS ts 16) = ([], j, 120) := fun h h2 => by unfold wholeS; rw [if_neg hl, h]; simp [h2]
    have HSn : ∀ {r : Nat × List Np} {j : Nat}, condS ts 16 0 [] = .ok r j → ¬ j < ts.length → 128 < r.2.length → wholeS ts (condS ts 16) = ([], 0, 2) := fun h h2 h3 => by unfold wholeS; rw [if_neg hl, h]; simp [h2, h3]
    have HSo : ∀ {r : Nat × List Np} {j : Nat}, condS ts 16 0 [] = .ok r j → ¬ j < ts.length → ¬ 128 < r.2.length → wholeS ts (condS ts 16) = (r.2, 0, 0) := fun h h2 h3 => by unfold wholeS; rw [if_neg hl, h]; simp [h2, h3]
    clear hl htok
    generalize hln : ts.length = ln at *
    have HLn := hid hln
    clear hln
    go_enter_defers Tryz.func67, Tryz.ntmps67
    go_wp2_with (first
      | (go_at_call 210; refine HN.out.mono ?_; rintro e w1 ⟨hk, ⟨j, c, hr, rfl⟩ | ⟨r, j, v, sv1, qs1, hr, rfl, rfl, hq, hm, ha⟩⟩; (focus (go_wp2_with fail; have HW1 := hid (HW.out.kp hk (fun k t => by have := tq_nil t; omega)); obtain ⟨xa, ha⟩ := HW1.out.a; obtain ⟨xe, he⟩ := HW1.out.e; refine leaves_cons (f := 105) (args := #[dp (w.heap.size + 1), dp (w.heap.size + 1 + 1)]) (by simp) (by simp [go_sem]) ?_; refine (catch_panicking ha he).mono ?_; rintro e u' w'' ⟨rfl, rfl, wz, hbz, rfl⟩; have HE := hid (We.of HW1.out hbz j c); generalize World.setCell _ _ _ = W at *; have k0 := block_cell HE.out.q; have k1 := block_cell HE.out.a; have k2 := block_cell HE.out.e; simp [Leaves, settle, results, Tryz.results67, go_sem, k0, k1, k2]; exact ⟨_, by rw [HSb hr], by rw [HSb hr]; exact Nq.nil _ _, HE.out.kept⟩)); have HK1 := hid hk; have HQ1 := hid hq; have HR1 := hid hr; have HM1 := hid hm; clear hk hq hr hm ha)
      | (go_at_call 107; refine (end_any HQ1.out).mono ?_; rintro e w2 ⟨hb, ⟨h1, rfl⟩ | ⟨h1, h2, rfl⟩ | ⟨h1, h2, rfl⟩⟩; (focus (go_wp2_with fail; have HW2 := hid ((HW.out.kp HK1.out (fun k t => by have := tq_nil t; omega)).kp (Kp.of (T := fun _ => False) hb) (fun _ h => h.elim)); obtain ⟨xa, ha⟩ := HW2.out.a; obtain ⟨xe, he⟩ := HW2.out.e; refine leaves_cons (f := 105) (args := #[dp (w.heap.size + 1), dp (w.heap.size + 1 + 1)]) (by simp) (by simp [go_sem]) ?_; refine (catch_panicking ha he).mono ?_; rintro e u' w'' ⟨rfl, rfl, wz, hbz, rfl⟩; have HE := hid (We.of HW2.out hbz j 120); generalize World.setCell _ _ _ = W at *; have k0 := block_cell HE.out.q; have k1 := block_cell HE.out.a; have k2 := block_cell HE.out.e; simp [Leaves, settle, results, Tryz.results67, go_sem, k0, k1, k2]; exact ⟨_, by rw [HSe HR1.out (HLn.out ▸ h1)], by rw [HSe HR1.out (HLn.out ▸ h1)]; exact Nq.nil _ _, HE.out.kept⟩)); (focus (go_wp2_with fail; have HW2 := hid ((HW.out.kp HK1.out (fun k t => by have := tq_nil t; omega)).kp (Kp.of (T := fun _ => False) hb) (fun _ h => h.elim)); obtain ⟨xa, ha⟩ := HW2.out.a; obtain ⟨xe, he⟩ := HW2.out.e; refine leaves_cons (f := 105) (args := #[dp (w.heap.size + 1), dp (w.heap.size + 1 + 1)]) (by simp) (by simp [go_sem]) ?_; refine (catch_panicking ha he).mono ?_; rintro e u' w'' ⟨rfl, rfl, wz, hbz, rfl⟩; have HE := hid (We.of HW2.out hbz 0 2); generalize World.setCell _ _ _ = W at *; have k0 := block_cell HE.out.q; have k1 := block_cell HE.out.a; have k2 := block_cell HE.out.e; simp [Leaves, settle, results, Tryz.results67, go_sem, k0, k1, k2]; exact ⟨_, by rw [HSn HR1.out (HLn.out ▸ h1) (by have := congrArg List.length HM1.out; simp at this; omega)]; rfl, by rw [HSn HR1.out (HLn.out ▸ h1) (by have := congrArg List.length HM1.out; simp at this; omega)]; exact Nq.nil _ _, HE.out.kept⟩)); obtain ⟨pv, cv, rfl⟩ := HQ1.out.own.form; have HB := hid hb; have k9 := (HQ1.out.on hb).cell; have HW2 := hid ((HW.out.kp HK1.out (fun k t => by have := tq_nil t; omega)).kp (Kp.of (T := fun _ => False) hb) (fun _ h => h.elim)); obtain ⟨xa, ha⟩ := HW2.out.a; obtain ⟨xe, he⟩ := HW2.out.e; have kq := block_cell HW2.out.q; have zq := block_frozen HW2.out.q; have ka := block_cell ha; have za := block_frozen ha; have ke := block_cell he; have ze := block_frozen he; have H1 := hid h1; have H2 := hid h2; clear hb ha he h1 h2))
    have HP := hid (HW2.out.put (.slice pv qs1.length cv))
    have HNq : Hid (Nq (w.heap.size + 3) w2 (.slice pv qs1.length cv) r.2) := ⟨qs1, (HQ1.out.on HB.out).own, (HQ1.out.on HB.out).each, HM1.out⟩
    have HNp := hid (HNq.out.kp (((Kp.set (T := fun k => k < w.heap.size + 3) (b := w.heap.size) (i := 0) (by omega) (.slice pv qs1.length cv)).trans (Kp.set (T := fun k => k < w.heap.size + 3) (b := w.heap.size + 1) (i := 0) (by omega) (.int .i64 0))).trans (Kp.set (T := fun k => k < w.heap.size + 3) (b := w.heap.size + 1 + 1) (i := 0) (by omega) (.int .i64 0))) (fun k h => h))
    clear HNq
    obtain ⟨ya, ha⟩ := HP.out.a
    obtain ⟨ye, he⟩ := HP.out.e
    refine leaves_cons (f := 105) (args := #[dp (w.heap.size + 1), dp (w.heap.size + 1 + 1)]) (by simp) (by simp [go_sem]) ?_
    refine (catch_idle ha he).mono ?_
    rintro e u' w'' ⟨rfl, rfl, rfl⟩
    have HE := hid (We.of HP.out (Below.refl _ _) 0 0)
    have HNe := hid (HNp.out.kp (kp2 (n := w.heap.size + 3) (m := w.heap.size) (x := .int .i64 0) (c := .int .i64 0) (by omega)) (fun k h => h))
    generalize World.setCell (World.setCell _ _ _) ⟨w.heap.size + 1 + 1, 0, none⟩ _ = W at *
    have k0 := block_cell HE.out.q
    have k1 := block_cell HE.out.a
    have k2 := block_cell HE.out.e
    simp [Leaves, settle, results, Tryz.results67, go_sem, k0, k1, k2]
    have hS := HSo HR1.out (HLn.out ▸ H1.out) (by have e1 := congrArg List.length HM1.out; have e2 := H2.out; simp at e1; omega)
    exact ⟨_, by rw [hS]; rfl, by rw [hS]; exact HNe.out.le (by omega), HE.out.kept⟩
end
end Go.Proofs.YtmpjmimhoikknaaGreatDoor
namespace Go.Proofs
open Go.Shelf
def Tryz.laysC174_ren : Go.Shelf.Ren := ⟨fun | 174 => 190 | 247 => 216 | 245 => 217 | 287 => 231 | 279 => 232 | 280 => 233 | 281 => 234 | 282 => 235 | 321 => 245 | 322 => 246 | 316 => 247 | 171 => 136 | 205 => 248 | 243 => 169 | 246 => 203 | 283 => 221 | 284 => 222 | 285 => 223 | 286 => 224 | 129 => 239 | 317 => 238 | 318 => 240 | 319 => 241 | 320 => 242 | 337 => 249 | 338 => 250 | n => n, fun | 9 => 9 | 3 => 3 | 2 => 2 | 75 => 196 | 85 => 197 | 4 => 4 | 167 => 225 | 5 => 5 | 53 => 218 | 175 => 226 | 46 => 228 | 168 => 229 | 37 => 105 | 0 => 0 | 210 => 240 | 21 => 21 | 127 => 243 | 145 => 246 | 143 => 244 | 171 => 217 | 173 => 221 | 212 => 233 | 51 => 234 | 20 => 20 | 213 => 235 | 232 => 247 | 233 => 248 | 80 => 174 | n => n, fun | 15 => 5 | 16 => 6 | 17 => 4 | 18 => 7 | 19 => 8 | n => n⟩
theorem Tryz.laysC174 : Go.Proofs.LaysC.n174 Tryz.prog Tryz.laysC174_ren := {
  mixed := by kernel_rfl
  f129 := Tryz.func239.trans (congrArg some (by kernel_rfl))
  f171 := Tryz.func136.trans (congrArg some (by kernel_rfl))
  f174 := Tryz.func190.trans (congrArg some (by kernel_rfl))
  f205 := Tryz.func248.trans (congrArg some (by kernel_rfl))
  f243 := Tryz.func169.trans (congrArg some (by kernel_rfl))
  f245 := Tryz.func217.trans (congrArg some (by kernel_rfl))
  f246 := Tryz.func203.trans (congrArg some (by kernel_rfl))
  f247 := Tryz.func216.trans (congrArg some (by kernel_rfl))
  f279 := Tryz.func232.trans (congrArg some (by kernel_rfl))
  f280 := Tryz.func233.trans (congrArg some (by kernel_rfl))
  f281 := Tryz.func234.trans (congrArg some (by kernel_rfl))
  f282 := Tryz.func235.trans (congrArg some (by kernel_rfl))
  f283 := Tryz.func221.trans (congrArg some (by kernel_rfl))
  f284 := Tryz.func222.trans (congrArg some (by kernel_rfl))
  f285 := Tryz.func223.trans (congrArg some (by kernel_rfl))
  f286 := Tryz.func224.trans (congrArg some (by kernel_rfl))
  f287 := Tryz.func231.trans (congrArg some (by kernel_rfl))
  f316 := Tryz.func247.trans (congrArg some (by kernel_rfl))
  f317 := Tryz.func238.trans (congrArg some (by kernel_rfl))
  f318 := Tryz.func240.trans (congrArg some (by kernel_rfl))
  f319 := Tryz.func241.trans (congrArg some (by kernel_rfl))
  f320 := Tryz.func242.trans (congrArg some (by kernel_rfl))
  f321 := Tryz.func245.trans (congrArg some (by kernel_rfl))
  f322 := Tryz.func246.trans (congrArg some (by kernel_rfl))
  f337 := Tryz.func249.trans (congrArg some (by kernel_rfl))
  f338 := Tryz.func250.trans (congrArg some (by kernel_rfl))
  t0 := Tryz.underlying0
  a0 := Tryz.isAgg0
  z0 := Tryz.sizeOf0
  v0 := Tryz.zeroValue0
  t2 := Tryz.underlying2
  a2 := Tryz.isAgg2
  z2 := Tryz.sizeOf2
  v2 := Tryz.zeroValue2
  t3 := Tryz.underlying3
  a3 := Tryz.isAgg3
  z3 := Tryz.sizeOf3
  v3 := Tryz.zeroValue3
  t4 := Tryz.underlying4
  a4 := Tryz.isAgg4
  z4 := Tryz.sizeOf4
  v4 := Tryz.zeroValue4
  t5 := Tryz.underlying5
  a5 := Tryz.isAgg5
  z5 := Tryz.sizeOf5
  v5 := Tryz.zeroValue5
  t9 := Tryz.underlying9
  a9 := Tryz.isAgg9
  z9 := Tryz.sizeOf9
  v9 := Tryz.zeroValue9
  t20 := Tryz.underlying20
  a20 := Tryz.isAgg20
  z20 := Tryz.sizeOf20
  v20 := Tryz.zeroValue20
  t21 := Tryz.underlying21
  a21 := Tryz.isAgg21
  z21 := Tryz.sizeOf21
  v21 := Tryz.zeroValue21
  t37 := Tryz.underlying105
  a37 := Tryz.isAgg105
  z37 := Tryz.sizeOf105
  v37 := Tryz.zeroValue105
  t46 := Tryz.underlying228
  a46 := Tryz.isAgg228
  z46 := Tryz.sizeOf228
  v46 := Tryz.zeroValue228
  t51 := Tryz.underlying234
  a51 := Tryz.isAgg234
  z51 := Tryz.sizeOf234
  v51 := Tryz.zeroValue234
  t53 := Tryz.underlying218
  a53 := Tryz.isAgg218
  z53 := Tryz.sizeOf218
  v53 := Tryz.zeroValue218
  t75 := Tryz.underlying196
  a75 := Tryz.isAgg196
  z75 := Tryz.sizeOf196
  v75 := Tryz.zeroValue196
  t85 := Tryz.underlying197
  a85 := Tryz.isAgg197
  z85 := Tryz.sizeOf197
  v85 := Tryz.zeroValue197
  t127 := Tryz.underlying243
  a127 := Tryz.isAgg243
  z127 := Tryz.sizeOf243
  v127 := Tryz.zeroValue243
  t143 := Tryz.underlying244
  a143 := Tryz.isAgg244
  z143 := Tryz.sizeOf244
  v143 := Tryz.zeroValue244
  t145 := Tryz.underlying246
  a145 := Tryz.isAgg246
  z145 := Tryz.sizeOf246
  v145 := Tryz.zeroValue246
  t167 := Tryz.underlying225
  a167 := Tryz.isAgg225
  z167 := Tryz.sizeOf225
  v167 := Tryz.zeroValue225
  t168 := Tryz.underlying229
  a168 := Tryz.isAgg229
  z168 := Tryz.sizeOf229
  v168 := Tryz.zeroValue229
  t171 := Tryz.underlying217
  a171 := Tryz.isAgg217
  z171 := Tryz.sizeOf217
  v171 := Tryz.zeroValue217
  t173 := Tryz.underlying221
  a173 := Tryz.isAgg221
  z173 := Tryz.sizeOf221
  v173 := Tryz.zeroValue221
  t175 := Tryz.underlying226
  a175 := Tryz.isAgg226
  z175 := Tryz.sizeOf226
  v175 := Tryz.zeroValue226
  t210 := Tryz.underlying240
  a210 := Tryz.isAgg240
  z210 := Tryz.sizeOf240
  v210 := Tryz.zeroValue240
  t212 := Tryz.underlying233
  a212 := Tryz.isAgg233
  z212 := Tryz.sizeOf233
  v212 := Tryz.zeroValue233
  t213 := Tryz.underlying235
  a213 := Tryz.isAgg235
  z213 := Tryz.sizeOf235
  t232 := Tryz.underlying247
  a232 := Tryz.isAgg247
  z232 := Tryz.sizeOf247
  v232 := Tryz.zeroValue247
  t233 := Tryz.underlying248
  a233 := Tryz.isAgg248
  z233 := Tryz.sizeOf248
  v233 := Tryz.zeroValue248
  g15 := by kernel_rfl
  g16 := by kernel_rfl
  g17 := by kernel_rfl
  g18 := by kernel_rfl
  g19 := by kernel_rfl
  t80 := Tryz.underlying174
  a80 := Tryz.isAgg174
  z80 := Tryz.sizeOf174
  v80 := Tryz.zeroValue174
  i0 := by kernel_rfl
  i2 := by kernel_rfl
  i3 := by kernel_rfl
  i4 := by kernel_rfl
  i5 := by kernel_rfl
  i9 := by kernel_rfl
  i20 := by kernel_rfl
  i21 := by kernel_rfl
  i37 := by kernel_rfl
  i46 := by kernel_rfl
  i51 := by kernel_rfl
  i53 := by kernel_rfl
  i75 := by kernel_rfl
  i80 := by kernel_rfl
  i85 := by kernel_rfl
  i127 := by kernel_rfl
  i143 := by kernel_rfl
  i145 := by kernel_rfl
  i167 := by kernel_rfl
  i168 := by kernel_rfl
  i171 := by kernel_rfl
  i173 := by kernel_rfl
  i175 := by kernel_rfl
  i210 := by kernel_rfl
  i212 := by kernel_rfl
  i232 := by kernel_rfl
  i233 := by kernel_rfl
  m15 := by kernel_rfl
  m16 := by kernel_rfl
  m17 := by kernel_rfl
  m18 := by kernel_rfl
  m19 := by kernel_rfl
  c0 := by kernel_rfl
  c2 := by kernel_rfl
  c3 := by kernel_rfl
  c4 := by kernel_rfl
  c5 := by kernel_rfl
  c9 := by kernel_rfl
  c20 := by kernel_rfl
  c21 := by kernel_rfl
  c37 := by kernel_rfl
  c46 := by kernel_rfl
  c51 := by kernel_rfl
  c53 := by kernel_rfl
  c75 := by kernel_rfl
  c80 := by kernel_rfl
  c85 := by kernel_rfl
  c127 := by kernel_rfl
  c143 := by kernel_rfl
  c145 := by kernel_rfl
  c167 := by kernel_rfl
  c168 := by kernel_rfl
  c171 := by kernel_rfl
  c173 := by kernel_rfl
  c175 := by kernel_rfl
  c210 := by kernel_rfl
  c212 := by kernel_rfl
  c213 := by kernel_rfl
  c232 := by kernel_rfl
  c233 := by kernel_rfl }
open Go.RowKit in
/-- strconv.ParseInt(s, 10, 64), AT EVERY STRING THAT SPELLS AN int64 ('Lib.parseIntB 64 s.data.toList = .ok v'): v, AND NO ERROR. (LAID: no walk: one application.) -/
theorem Tryz.strconv_ParseInt_10_at64_ok (s : ByteArray) (hmax : s.size ≤ 9223372036854775806) (v : Int) (h : Lib.parseIntB 64 s.data.toList = .ok v) (w : World) :
    Calls Tryz.prog 190 #[.string s, .int .i64 10, .int .i64 64] w fun e w' => e = .returned (.tuple #[.int .i64 v, .nilIface]) ∧ (w' = w ∨ ∃ t, w' = Lib.bytesWorld w 5 t) := Any.strconv_ParseInt_10_at64_ok Tryz.laysC174 s hmax v h w
open Go.RowKit in
/-- strconv.ParseInt(s, 10, 64), AT EVERY NUMERAL THAT NO int64 HOLDS: THE GREATEST OR THE LEAST int64, BY THE SIGN ('Lib.intSat 64'), AND AN ERROR THAT IS NOT nil: a *NumError in a new block N: {Func: "ParseInt", Num: s's bytes, Err: what the variable ErrRange holds}. Of what was there nothing has turned. (LAID: no walk: one application.) -/
theorem Tryz.strconv_ParseInt_10_at64_range (s : ByteArray) (hlim : s.size ≤ 281474976710656) (h : Lib.parseIntB 64 s.data.toList = .range) (ev : Value) (w : World) (hv : w.cell? ⟨6, 0, none⟩ = some ev) (hev : ev = .nilIface ∨ ∃ te pe, ev = .iface te pe) :
    Calls Tryz.prog 190 #[.string s, .int .i64 10, .int .i64 64] w fun e w' => ∃ N, e = .returned (.tuple #[.int .i64 (Lib.intSat 64 s.data.toList), .iface 229 (.pointer (some ⟨N, 0, none⟩))]) ∧ w.heap.size ≤ N ∧ w'.heap[N]? = some (.cells #[.string ⟨#[80, 97, 114, 115, 101, 73, 110, 116]⟩, .string s, ev] 240 (0, 0)) ∧ Below w.heap.size w w' := Any.strconv_ParseInt_10_at64_range Tryz.laysC174 s hlim h ev w hv hev
end Go.Proofs
namespace Go.Proofs.YtmpjmimhoikknaaGreatDoor
open Go.RowKit

theorem uint_digits (ds : List UInt8) : ∀ acc, (∀ x ∈ ds, isDg x = true) → acc < 18446744073709551616 →
    Lib.parseUintM 18446744073709551615 acc ds = if dvalF acc ds < 18446744073709551616 then .ok (dvalF acc ds) else .range := by
  induction ds with
  | nil => intro acc _ h; simp [Lib.parseUintM, dvalF, h]
  | cons c r ih =>
    intro acc hd h
    have hc := hd c (by simp)
    simp [isDg] at hc
    have hge := dvalF_acc r (dstep acc c)
    rw [Lib.parseUintM, if_pos hc, dvalF_cons]
    have hst : dstep acc c = acc * 10 + (c.toNat - 48) := rfl
    by_cases h1 : 1844674407370955162 ≤ acc
    · rw [if_pos h1, if_neg (by omega)]
    · rw [if_neg h1]
      by_cases h2 : 18446744073709551615 < acc * 10 + (c.toNat - 48)
      · rw [if_pos h2, if_neg (by omega)]
      · rw [if_neg h2, ← hst]
        exact ih _ (fun x hx => hd x (by simp [hx])) (by omega)
def sgnL (ng : Bool) : List UInt8 := if ng then [45] else []
def numE (ng : Bool) (v : Nat) : Lib.NumEnd Int := match numV ng v with | some x => .ok x | none => .range
theorem e64 : 2 ^ 64 - 1 = 18446744073709551615 := by simp
theorem e63 : 2 ^ (64 - 1) = 9223372036854775808 := by simp
theorem z64 : 0 < 18446744073709551616 := by omega
theorem uintB (ds : List UInt8) (hd : ∀ x ∈ ds, isDg x = true) (hne : ds ≠ []) : Lib.parseUintB 64 ds = if dval ds < 18446744073709551616 then .ok (dval ds) else .range := by
  unfold Lib.parseUintB
  rw [if_neg hne, e64]
  exact uint_digits ds 0 hd z64
theorem numV_t (v : Nat) (h : v ≤ 9223372036854775808) : numV true v = some (-(v : Int)) := by
  unfold numV; rw [if_pos rfl, if_pos h]
theorem numV_tn (v : Nat) (h : ¬ v ≤ 9223372036854775808) : numV true v = none := by
  unfold numV; rw [if_pos rfl, if_neg h]
theorem numV_f (v : Nat) (h : v < 9223372036854775808) : numV false v = some (v : Int) := by
  unfold numV; rw [if_neg Bool.false_ne_true, if_pos h]
theorem numV_fn (v : Nat) (h : ¬ v < 9223372036854775808) : numV false v = none := by
  unfold numV; rw [if_neg Bool.false_ne_true, if_neg h]
theorem numE_t (v : Nat) : (if ¬True ∧ 9223372036854775808 ≤ v then (.range : Lib.NumEnd Int) else if True ∧ 9223372036854775808 < v then .range else .ok (if True then -(v : Int) else v)) = numE true v := by
  rw [if_neg (fun h => h.1 trivial)]
  unfold numE
  by_cases h2 : v ≤ 9223372036854775808
  · rw [numV_t v h2, if_neg (fun h => Nat.not_lt.2 h2 h.2), if_pos trivial]
  · rw [numV_tn v h2, if_pos ⟨trivial, Nat.not_le.1 h2⟩]
theorem numE_f (v : Nat) : (if ¬False ∧ 9223372036854775808 ≤ v then (.range : Lib.NumEnd Int) else if False ∧ 9223372036854775808 < v then .range else .ok (if False then -(v : Int) else v)) = numE false v := by
  rw [if_neg (fun h : False ∧ 9223372036854775808 < v => h.1)]
  unfold numE
  rcases Nat.lt_or_ge v 9223372036854775808 with h2 | h2
  · rw [if_neg (fun h => Nat.not_le.2 h2 h.2), numV_f v h2, if_neg (fun h => h)]
  · rw [if_pos ⟨fun h => h, h2⟩, numV_fn v (fun h => Nat.not_lt.2 h2 h)]
theorem numE_big (ng : Bool) (v : Nat) (h : ¬ v < 18446744073709551616) : numE ng v = .range := by
  unfold numE
  cases ng
  · rw [numV_fn v (by omega)]
  · rw [numV_tn v (by omega)]
theorem parse_digits (ng : Bool) (ds : List UInt8) (hd : ∀ x ∈ ds, isDg x = true) (hne : ds ≠ []) : Lib.parseIntB 64 (sgnL ng ++ ds) = numE ng (dval ds) := by
  have hu := uintB ds hd hne
  cases ng with
  | true =>
    show Lib.parseIntB 64 (45 :: ds) = _
    unfold Lib.parseIntB
    simp only [show (UInt8.toNat 45) = 45 from rfl]
    rw [if_pos (Or.inr trivial), hu, e63]
    by_cases h : dval ds < 18446744073709551616
    · rw [if_pos h]; exact numE_t _
    · rw [if_neg h, numE_big _ _ h]
  | false =>
    cases ds with
    | nil => exact absurd rfl hne
    | cons c r =>
      have hc := hd c (by simp)
      simp [isDg] at hc
      show Lib.parseIntB 64 (c :: r) = _
      unfold Lib.parseIntB
      have h45 : (c.toNat = 45) = False := by simp; omega
      simp only [h45]
      rw [if_neg (fun h => h.elim (by omega) id), hu, e63]
      by_cases h : dval (c :: r) < 18446744073709551616
      · rw [if_pos h]; exact numE_f _
      · rw [if_neg h, numE_big _ _ h]
/-- What the walks ask of the world: the table of signs, and the variable ErrRange. -/
def Gd (w : World) : Prop := Sg w ∧ 9 ≤ w.heap.size ∧ ∃ ev, w.cell? ⟨6, 0, none⟩ = some ev ∧ (ev = .nilIface ∨ ∃ te pe, ev = .iface te pe)
theorem Gd.on {w w' : World} {b : Nat} (h : Gd w) (hb : 9 ≤ b) (hB : Below b w w') : Gd w' := by
  obtain ⟨h1, h2, ev, h3, h4⟩ := h
  refine ⟨h1.on (by omega) hB, by have := hB.size; omega, ev, ?_, h4⟩
  rw [← h3]; exact hB.cell (show 6 < b by omega)
theorem Gd.next {w w' : World} (h : Gd w) (hB : Below w.heap.size w w') : Gd w' := h.on h.2.1 hB
theorem Gd.alloc {w : World} (h : Gd w) (o : Obj) : Gd (w.alloc o) := h.next ((Below.refl _ w).alloc (Nat.le_refl _) o)
def NumOk (ng : Bool) (ds : List UInt8) (w : World) (e : Ending) (w' : World) : Prop :=
  ((∃ v, numV ng (dval ds) = some v ∧ e = .returned (.tuple #[.int .i64 v, .nilIface])) ∨ (numV ng (dval ds) = none ∧ ∃ (N : Nat) (x : Int), e = .returned (.tuple #[.int .i64 x, .iface 229 (.pointer (some ⟨N, 0, none⟩))]))) ∧ Below w.heap.size w w'
theorem bytes_below (w : World) (t : _) : Below w.heap.size w (Lib.bytesWorld w 5 t) := Lib.bytesWorld_below _ _ _
theorem parse_any (ng : Bool) (ds : List UInt8) (hd : ∀ x ∈ ds, isDg x = true) (hne : ds ≠ []) (hl : ds.length ≤ 140737488355328) (w : World) (hG : Gd w) :
    Calls Tryz.prog 190 #[.string (St (sgnL ng ++ ds)), .int .i64 10, .int .i64 64] w (NumOk ng ds w) := by
  have hp := parse_digits ng ds hd hne
  have hsz : (St (sgnL ng ++ ds)).size ≤ 140737488355329 := by
    rw [St_size]; cases ng <;> simp [sgnL] <;> omega
  rw [← St_toList (sgnL ng ++ ds)] at hp
  unfold numE at hp
  cases hv : numV ng (dval ds) with
  | some v =>
    rw [hv] at hp
    refine (Tryz.strconv_ParseInt_10_at64_ok _ (by omega) v hp w).mono ?_
    rintro e w' ⟨rfl, h⟩
    refine ⟨.inl ⟨v, hv, rfl⟩, ?_⟩
    rcases h with rfl | ⟨t, rfl⟩
    · exact Below.refl _ _
    · exact bytes_below _ _
  | none =>
    rw [hv] at hp
    obtain ⟨-, -, ev, h3, h4⟩ := hG
    refine (Tryz.strconv_ParseInt_10_at64_range _ (by omega) hp ev w h3 h4).mono ?_
    rintro e w' ⟨N, rfl, h1, h2, h3⟩
    exact ⟨.inr ⟨hv, N, _, rfl⟩, h3⟩
end Go.Proofs.YtmpjmimhoikknaaGreatDoor
