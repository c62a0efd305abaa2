/-
  What fetch, chain, both, cond, inBrackets and not do.
  What inBrackets, not and the steps of a query do.
  What keep, align, group and top do.
  What group does.
  What step and query do.
  What whole comes to.
  
  What number returns: the digits of a number, what strconv.ParseInt makes of them.
  What number returns.
  Rows of bytes of a call's own: append, and their text.
  What text returns.
  What first returns.
  What Lex returns.
  What Parse and Query return.
  Print's small functions: how many nodes one of a kind names, how tight a condition holds, the words of a comparison and of an aggregate.
  What Cond returns.
-/
import Derived.Test.YtcidijjbcebcbaaProg
import Derived.Test.YtcidijjbcebcbaaKH01
import Derived.Test.YtcidijjbcebcbaaKH02
import Derived.Defers
import Derived.Recover
import Derived.Lib.AtoiErrMem
import Derived.Lib.ParseIntB
import Derived.Lib.ConvBytes
import Derived.Lib.SmallJoins
import Derived.Lib.Builder
namespace Go.Proofs.Ytcidijjbcebcbaa
open Go.RowKit Go.Joins

section
variable {B : Nat} {ts : List Tp} {w : World} {rb : Nat} {tv sv : Value} {o i : Nat} {qs : List Nd}
abbrev fetN (s : List UInt8) (a b : Int) : Np := { n0 with kind := 1, s := s, from_ := a, to_ := b }
theorem fet_set (s : List UInt8) (a b c : Int) : (bare (fetN s a b)).cells.toArray.setIfInBounds 3 (.int .i64 c) = (bare (fetN s c b)).cells.toArray := rfl
theorem fet_set4 (s : List UInt8) (a b c : Int) : (bare (fetN s a b)).cells.toArray.setIfInBounds 4 (.int .i64 c) = (bare (fetN s a c)).cells.toArray := rfl
theorem box_set3 {W : World} {g : Nat} {s : List UInt8} {a b : Int} (h : W.heap[g]? = some (.cells (bare (fetN s a b)).cells.toArray 51 (0, 0))) (c : Int) : (W.setCell ⟨g, 3, none⟩ (.int .i64 c)).heap[g]? = some (.cells (bare (fetN s c b)).cells.toArray 51 (0, 0)) := block_set h 3 (.int .i64 c)
theorem box_set4 {W : World} {g : Nat} {s : List UInt8} {a b : Int} (h : W.heap[g]? = some (.cells (bare (fetN s a b)).cells.toArray 51 (0, 0))) (c : Int) : (W.setCell ⟨g, 4, none⟩ (.int .i64 c)).heap[g]? = some (.cells (bare (fetN s a c)).cells.toArray 51 (0, 0)) := block_set h 4 (.int .i64 c)
theorem box_c3 {W : World} {g : Nat} {s : List UInt8} {a b : Int} (h : W.heap[g]? = some (.cells (bare (fetN s a b)).cells.toArray 51 (0, 0))) : W.cell? ⟨g, 3, none⟩ = some (.int .i64 a) := block_cell h 3
theorem box_c4 {W : World} {g : Nat} {s : List UInt8} {a b : Int} (h : W.heap[g]? = some (.cells (bare (fetN s a b)).cells.toArray 51 (0, 0))) : W.cell? ⟨g, 4, none⟩ = some (.int .i64 b) := block_cell h 4
/- A node that names one or two others. -/
abbrev nam1 (W : World) (n : Np) : Nd := ⟨n, .slice (some ⟨W.heap.size, 0, none⟩) 1 1, .slice none 0 0, .slice none 0 0⟩
abbrev nam2 (W : World) (n : Np) : Nd := ⟨n, .slice (some ⟨W.heap.size, 0, none⟩) 2 2, .slice none 0 0, .slice none 0 0⟩
theorem own_ints (W : World) (l : List Int) (hl : l.length ≤ 1000) {B : Nat} (hB : B ≤ W.heap.size) : Own int1 1 3 B (W.alloc (.cells (l.flatMap int1).toArray 3)) (.slice (some ⟨W.heap.size, 0, none⟩) l.length l.length) l :=
  Own.blk (enc := int1) (k := 1) (e := 3) (B := B) (w := W.alloc (.cells (l.flatMap int1).toArray 3)) (xs := l) (fun _ => rfl) hB (alloc_block W _) (by unfold maxLen; omega)
theorem nam2_in {W : World} {n : Np} {a b : Int} {B : Nat} (hB : B ≤ W.heap.size) (h1 : n.l = [a, b]) (h2 : n.names = []) (h3 : n.aggs = []) : NdIn B (W.alloc (.cells #[.int .i64 a, .int .i64 b] 3)) (nam2 W n) := by
  refine ⟨?_, ?_, ?_⟩
  · show Own _ _ _ _ _ _ n.l; rw [h1]; exact own_ints W [a, b] (by simp) hB
  · show Own _ _ _ _ _ _ n.names; rw [h2]; exact Own.nil _ _ _ _ _
  · show Own _ _ _ _ _ _ n.aggs; rw [h3]; exact Own.nil _ _ _ _ _
theorem nam1_in {W : World} {n : Np} {a : Int} {B : Nat} (hB : B ≤ W.heap.size) (h1 : n.l = [a]) (h2 : n.names = []) (h3 : n.aggs = []) : NdIn B (W.alloc (.cells #[.int .i64 a] 3)) (nam1 W n) := by
  refine ⟨?_, ?_, ?_⟩
  · show Own _ _ _ _ _ _ n.l; rw [h1]; exact own_ints W [a] (by simp) hB
  · show Own _ _ _ _ _ _ n.names; rw [h2]; exact Own.nil _ _ _ _ _
  · show Own _ _ _ _ _ _ n.aggs; rw [h3]; exact Own.nil _ _ _ _ _
theorem map_snoc {qs : List Nd} {q : Nd} {ns : List Np} (h : qs.map (·.np) = ns) : (qs ++ [q]).map (·.np) = ns ++ [q.np] := by simp [← h]
end
end Go.Proofs.Ytcidijjbcebcbaa
namespace Go.Proofs.Ytcidijjbcebcbaa
open Go.RowKit Go.Joins

section
variable {B : Nat} {ts : List Tp} {w : World} {rb : Nat} {tv sv : Value} {o i : Nat} {qs : List Nd}
theorem mkf : ∀ (fn : Fn) (first cap : Array Value) (w : World), (Instr.makeFunc fn first cap).run Try.prog w = .ok (.func fn first cap) w := fun _ _ _ _ => rfl
theorem bad_if {α : Type} {r : Rs α} {j : Nat} {c : Int} (h : r = .bad j c) : r = .bad j c := h
abbrev whereS (c : PN) (rows i : Nat) (ns : List Np) : Rs (Np × List Np) := (c i ns).and fun r j => .ok ({ n0 with kind := 2, l := [(rows : Int), (r.1 : Int)] }, r.2) j
abbrev keepS (ts : List Tp) (rows i : Nat) (ns : List Np) : Rs (Np × List Np) := (listS ts (nameS ts) i).and fun l j => .ok ({ laidN 3 rows with names := l }, ns) j
abbrev alignS (ts : List Tp) (rows i : Nat) (ns : List Np) : Rs (Np × List Np) := (numS' ts i).and fun n j => .ok ({ laidN 4 rows with n := n }, ns) j
abbrev groupS (ts : List Tp) (rows i : Nat) (ns : List Np) : Rs (Np × List Np) := if isW ts i wColon then (listS ts (aggS ts) (i + 1)).and fun l j => .ok ({ laidN 5 rows with aggs := l }, ns) j
        else (listS ts (nameS ts) i).and fun l j => (wantS ts wColon j).and fun _ j => (listS ts (aggS ts) j).and fun g j => .ok ({ laidN 5 rows with names := l, aggs := g }, ns) j
abbrev topS (ts : List Tp) (rows i : Nat) (ns : List Np) : Rs (Np × List Np) := (numS' ts i).and fun n j => (wantS ts wBy j).and fun _ j => (nameS ts j).and fun x j => .ok ({ laidN 6 rows with n := n, s := x }, ns) j
abbrev joinS (k : Int) (ts : List Tp) (d : Option PN) (rows i : Nat) (ns : List Np) : Rs (Np × List Np) := (inBr ts d i ns).and fun r j => .ok ({ n0 with kind := k, l := [(rows : Int), (r.1 : Int)] }, r.2) j
end
end Go.Proofs.Ytcidijjbcebcbaa
namespace Go.Proofs.Ytcidijjbcebcbaa
open Go.RowKit Go.Joins

section
variable {B : Nat} {ts : List Tp} {w : World} {rb : Nat} {tv sv : Value} {o i : Nat} {qs : List Nd}
theorem Own.nd {α : Type} {enc : α → List Value} {k e n g : Nat} {w' : World} {v : Value} {xs : List α} {cs : Array Value} {fz : Nat × Nat} (h : Own enc k e n w v xs) (hg : w.heap[g]? = some (.cells cs 51 fz)) (hk : Kp (fun k => k = g) w w') (he : e ≠ 51) : Own enc k e n w' v xs :=
  h.kpk hk (fun b hT c t fz hc => by subst hT; rw [hg] at hc; cases hc; exact fun e' => he e'.symm)
abbrev one3 (w : World) : Value := .slice (some ⟨w.heap.size, 0, none⟩) 1 1
theorem own_one {W : World} {B : Nat} (hB : B ≤ W.heap.size) (a : Int) : Own int1 1 3 B (W.alloc (.cells #[.int .i64 a] 3)) (one3 W) [a] := own_ints W [a] (by simp) hB
theorem nd_all {q : Nd} (h1 : q.lv.oneCell' = true) (h2 : q.nv.oneCell' = true) (h3 : q.gv.oneCell' = true) : q.cells.toArray.all (·.oneCell') = true := by
  apply all_oneCell_toArray
  intro v hv
  simp [Nd.cells] at hv
  rcases hv with rfl | rfl | rfl | rfl | rfl | rfl | rfl | rfl | rfl | rfl | rfl | rfl | rfl | rfl | rfl | rfl | rfl | rfl | rfl <;> first | rfl | assumption
theorem nd_set17 {W : World} {g : Nat} {n : Np} {lv nv gv : Value} (h : W.heap[g]? = some (.cells (⟨n, lv, nv, gv⟩ : Nd).cells.toArray 51 (0, 0))) (v : Value) (l : List (List UInt8)) : (W.setCell ⟨g, 17, none⟩ v).heap[g]? = some (.cells (⟨{ n with names := l }, lv, v, gv⟩ : Nd).cells.toArray 51 (0, 0)) := block_set h 17 v
theorem nd_set18 {W : World} {g : Nat} {n : Np} {lv nv gv : Value} (h : W.heap[g]? = some (.cells (⟨n, lv, nv, gv⟩ : Nd).cells.toArray 51 (0, 0))) (v : Value) (l : List (Int × List UInt8)) : (W.setCell ⟨g, 18, none⟩ v).heap[g]? = some (.cells (⟨{ n with aggs := l }, lv, nv, v⟩ : Nd).cells.toArray 51 (0, 0)) := block_set h 18 v
theorem nd_set1 {W : World} {g : Nat} {n : Np} {lv nv gv : Value} (h : W.heap[g]? = some (.cells (⟨n, lv, nv, gv⟩ : Nd).cells.toArray 51 (0, 0))) (s : List UInt8) : (W.setCell ⟨g, 1, none⟩ (.string (St s))).heap[g]? = some (.cells (⟨{ n with s := s }, lv, nv, gv⟩ : Nd).cells.toArray 51 (0, 0)) := block_set h 1 (.string (St s))
theorem nd_c17 {W : World} {g : Nat} {n : Np} {lv nv gv : Value} (h : W.heap[g]? = some (.cells (⟨n, lv, nv, gv⟩ : Nd).cells.toArray 51 (0, 0))) : W.cell? ⟨g, 17, none⟩ = some nv := block_cell h 17
theorem nd_c18 {W : World} {g : Nat} {n : Np} {lv nv gv : Value} (h : W.heap[g]? = some (.cells (⟨n, lv, nv, gv⟩ : Nd).cells.toArray 51 (0, 0))) : W.cell? ⟨g, 18, none⟩ = some gv := block_cell h 18
theorem nd_c1 {W : World} {g : Nat} {n : Np} {lv nv gv : Value} (h : W.heap[g]? = some (.cells (⟨n, lv, nv, gv⟩ : Nd).cells.toArray 51 (0, 0))) : W.cell? ⟨g, 1, none⟩ = some (.string (St n.s)) := block_cell h 1
end
end Go.Proofs.Ytcidijjbcebcbaa
namespace Go.Proofs.Ytcidijjbcebcbaa
open Go.RowKit Go.Joins

section
variable {B : Nat} {ts : List Tp} {w : World} {rb : Nat} {tv sv : Value} {o i : Nat} {qs : List Nd}
end
end Go.Proofs.Ytcidijjbcebcbaa
namespace Go.Proofs.Ytcidijjbcebcbaa
open Go.RowKit Go.Joins

section
variable {B : Nat} {ts : List Tp} {w : World} {rb : Nat} {tv sv : Value} {o i : Nat} {qs : List Nd}
theorem one_at {ws : List (List UInt8)} {k : Nat} {x : List UInt8} (h : idxOf ts i ws 0 = idxOf ts i (ws.drop k) k) (hx : ws[k]? = some x) (hw : isW ts i x = true) : oneOfS ts ws i = .ok k (i + 1) := by
  unfold oneOfS; rw [h, idx_at hx hw]
theorem one_none {ws : List (List UInt8)} {k : Nat} (h : idxOf ts i ws 0 = idxOf ts i (ws.drop k) k) (hk : ws.length ≤ k) : oneOfS ts ws i = .bad i 120 := by
  unfold oneOfS; rw [h, List.drop_of_length_le hk]; rfl
theorem step_all (s : ByteArray) (f : Fn) : (#[Value.string s, .func f #[] #[]] : Array Value).all (·.oneCell') = true := by simp [Value.oneCell']
end
end Go.Proofs.Ytcidijjbcebcbaa
namespace Go.Proofs.Ytcidijjbcebcbaa
open Go.RowKit Go.Joins

section
variable {B : Nat} {ts : List Tp} {w : World} {rb : Nat} {tv sv : Value} {o i : Nat} {qs : List Nd}
structure Wh (w : World) (q : Value) (wr : World) : Prop where
  q : wr.heap[w.heap.size]? = some (.cells #[q] 24 (0, 0))
  a : ∃ x, wr.heap[w.heap.size + 1]? = some (.cells #[.int .i64 x] 3 (0, 0))
  e : ∃ x, wr.heap[w.heap.size + 1 + 1]? = some (.cells #[.int .i64 x] 42 (0, 0))
  kept : Below w.heap.size w wr
theorem heap4 (w : World) (a b c d : Obj) : ((((w.alloc a).alloc b).alloc c).alloc d).heap[w.heap.size]? = some a ∧ ((((w.alloc a).alloc b).alloc c).alloc d).heap[w.heap.size + 1]? = some b ∧ ((((w.alloc a).alloc b).alloc c).alloc d).heap[w.heap.size + 1 + 1]? = some c ∧ ((((w.alloc a).alloc b).alloc c).alloc d).heap[w.heap.size + 3]? = some d := by
  have h1 := alloc_block w a
  have h2 := alloc_block (w.alloc a) b
  have h3 := alloc_block ((w.alloc a).alloc b) c
  have h4 := alloc_block (((w.alloc a).alloc b).alloc c) d
  simp only [World.size_alloc] at h2 h3 h4
  refine ⟨?_, ?_, ?_, h4⟩
  · rw [Below.heap_alloc _ _ _ (by simp <;> omega), Below.heap_alloc _ _ _ (by simp <;> omega), Below.heap_alloc _ _ _ (by simp)]; exact h1
  · rw [Below.heap_alloc _ _ _ (by simp <;> omega), Below.heap_alloc _ _ _ (by simp)]; exact h2
  · rw [Below.heap_alloc _ _ _ (by simp)]; exact h3
theorem Wh.kp {q : Value} {wr w' : World} {T : Nat → Prop} (h : Wh w q wr) (hk : Kp T wr w') (hT : ∀ k, T k → w.heap.size + 3 ≤ k) : Wh w q w' :=
  ⟨hk.blk h.q (fun t => by have := hT _ t; omega), let ⟨x, hx⟩ := h.a; ⟨x, hk.blk hx (fun t => by have := hT _ t; omega)⟩, let ⟨x, hx⟩ := h.e; ⟨x, hk.blk hx (fun t => by have := hT _ t; omega)⟩, h.kept.trans (hk.below h.kept.size (fun k t => by have := hT _ t; omega))⟩
/- What whole returns: a row of nodes of its own. -/
def Nq (n : Nat) (w : World) (v : Value) (ns : List Np) : Prop := ∃ qs, Own Nd.cells 19 51 n w v qs ∧ (∀ q ∈ qs, NdIn n w q) ∧ qs.map (·.np) = ns
def WhP (w : World) (r : List Np × Nat × Int) (e : Ending) (w' : World) : Prop :=
  ∃ v, e = .returned (.tuple #[.agg #[v], .int .i64 (r.2.1 : Int), .int .i64 r.2.2]) ∧ Nq w.heap.size w' v r.1 ∧ Below w.heap.size w w'
theorem Nq.nil (n : Nat) (w : World) : Nq n w (.slice none 0 0) [] := ⟨[], Own.nil _ _ _ _ _, fun q hq => by simp at hq, rfl⟩
theorem Nq.kp {n : Nat} {w w' : World} {v : Value} {ns : List Np} {T : Nat → Prop} (h : Nq n w v ns) (hk : Kp T w w') (hT : ∀ k, T k → k < n) : Nq n w' v ns := by
  obtain ⟨qs, h1, h2, h3⟩ := h
  refine ⟨qs, h1.kp hk (fun g hg ht => by have := hT g ht; have := (h1.at hg).1; omega), fun q hq => ?_, h3⟩
  have hq := h2 q hq
  exact ⟨hq.l.kp hk (fun g hg ht => by have := hT g ht; have := (hq.l.at hg).1; omega), hq.n.kp hk (fun g hg ht => by have := hT g ht; have := (hq.n.at hg).1; omega), hq.g.kp hk (fun g hg ht => by have := hT g ht; have := (hq.g.at hg).1; omega)⟩
theorem Nq.on {n : Nat} {w w' : World} {v : Value} {ns : List Np} (h : Nq n w v ns) (hb : Below w.heap.size w w') : Nq n w' v ns := h.kp (T := fun _ => False) (Kp.of hb) (fun _ h => h.elim)
theorem Nq.le {n m : Nat} {w : World} {v : Value} {ns : List Np} (h : Nq n w v ns) (hm : m ≤ n) : Nq m w v ns := by
  obtain ⟨qs, h1, h2, h3⟩ := h
  exact ⟨qs, h1.le hm, fun q hq => (h2 q hq).le hm, h3⟩
/- Behind the deferred function. -/
structure We (w : World) (q : Value) (x c : Int) (W : World) : Prop where
  q : W.heap[w.heap.size]? = some (.cells #[q] 24 (0, 0))
  a : W.heap[w.heap.size + 1]? = some (.cells #[.int .i64 x] 3 (0, 0))
  e : W.heap[w.heap.size + 1 + 1]? = some (.cells #[.int .i64 c] 42 (0, 0))
  kept : Below w.heap.size w W
theorem We.of {q : Value} {wr w1 : World} (h : Wh w q wr) (hb : Below wr.heap.size wr w1) (x c : Int) : We w q x c ((w1.setCell ⟨w.heap.size + 1, 0, none⟩ (.int .i64 x)).setCell ⟨w.heap.size + 1 + 1, 0, none⟩ (.int .i64 c)) := by
  obtain ⟨xa, ha⟩ := h.a
  obtain ⟨xe, he⟩ := h.e
  have k1 := block_on h.q hb
  have k2 := block_on ha hb
  have k3 := block_on he hb
  refine ⟨?_, ?_, ?_, ?_⟩
  · exact (Below.heap_setCell _ _ _ _ (by simp <;> omega)).trans ((Below.heap_setCell _ _ _ _ (by simp)).trans k1)
  · refine (Below.heap_setCell _ _ _ _ (by simp)).trans ?_
    have := block_set k2 0 (.int .i64 x); simpa using this
  · have k4 : (w1.setCell ⟨w.heap.size + 1, 0, none⟩ (.int .i64 x)).heap[w.heap.size + 1 + 1]? = some (.cells #[.int .i64 xe] 42 (0, 0)) := (Below.heap_setCell _ _ _ _ (by simp)).trans k3
    have := block_set k4 0 (.int .i64 c); simpa using this
  · exact ((h.kept.trans (hb.mono h.kept.size)).setCell (by simp) _).setCell (by simp <;> omega) _
theorem Wh.put {q : Value} {wr : World} (h : Wh w q wr) (v : Value) : Wh w v (((wr.setCell ⟨w.heap.size, 0, none⟩ v).setCell ⟨w.heap.size + 1, 0, none⟩ (.int .i64 0)).setCell ⟨w.heap.size + 1 + 1, 0, none⟩ (.int .i64 0)) := by
  obtain ⟨xa, ha⟩ := h.a
  obtain ⟨xe, he⟩ := h.e
  refine ⟨?_, ⟨0, ?_⟩, ⟨0, ?_⟩, ?_⟩
  · refine (Below.heap_setCell _ _ _ _ (by simp <;> omega)).trans ((Below.heap_setCell _ _ _ _ (by simp)).trans ?_)
    have := block_set h.q 0 v; simpa using this
  · refine (Below.heap_setCell _ _ _ _ (by simp)).trans ?_
    have k : (wr.setCell ⟨w.heap.size, 0, none⟩ v).heap[w.heap.size + 1]? = _ := (Below.heap_setCell _ _ _ _ (by simp)).trans ha
    have := block_set k 0 (.int .i64 0); simpa using this
  · have k : ((wr.setCell ⟨w.heap.size, 0, none⟩ v).setCell ⟨w.heap.size + 1, 0, none⟩ (.int .i64 0)).heap[w.heap.size + 1 + 1]? = _ := (Below.heap_setCell _ _ _ _ (by simp)).trans ((Below.heap_setCell _ _ _ _ (by simp <;> omega)).trans he)
    have := block_set k 0 (.int .i64 0); simpa using this
  · exact ((h.kept.setCell (by simp) _).setCell (by simp) _).setCell (by simp <;> omega) _
theorem tq_nil {n k : Nat} (h : Tq n (.slice none 0 0) k) : k = n := by
  rcases h with h | h
  · exact h
  · cases h
theorem kp2 {n m : Nat} {w1 : World} {x c : Value} (hm : m + 2 < n) : Kp (fun k => k < n) w1 ((w1.setCell ⟨m + 1, 0, none⟩ x).setCell ⟨m + 1 + 1, 0, none⟩ c) :=
  (Kp.set (T := fun k => k < n) (by omega) _).trans (Kp.set (T := fun k => k < n) (by omega) _)
end
end Go.Proofs.Ytcidijjbcebcbaa

namespace Go.Proofs.Ytcidijjbcebcbaa
open Go.RowKit

theorem uint_digits (ds : List UInt8) : ∀ acc, (∀ x ∈ ds, isDg x = true) → acc < 18446744073709551616 →
    Lib.parseUintM 18446744073709551615 acc ds = if dvalF acc ds < 18446744073709551616 then .ok (dvalF acc ds) else .range := by
  induction ds with
  | nil => intro acc _ h; simp [Lib.parseUintM, dvalF, h]
  | cons c r ih =>
    intro acc hd h
    have hc := hd c (by simp)
    simp [isDg] at hc
    have hge := dvalF_acc r (dstep acc c)
    rw [Lib.parseUintM, if_pos hc, dvalF_cons]
    have hst : dstep acc c = acc * 10 + (c.toNat - 48) := rfl
    by_cases h1 : 1844674407370955162 ≤ acc
    · rw [if_pos h1, if_neg (by omega)]
    · rw [if_neg h1]
      by_cases h2 : 18446744073709551615 < acc * 10 + (c.toNat - 48)
      · rw [if_pos h2, if_neg (by omega)]
      · rw [if_neg h2, ← hst]
        exact ih _ (fun x hx => hd x (by simp [hx])) (by omega)
def sgnL (ng : Bool) : List UInt8 := if ng then [45] else []
def numE (ng : Bool) (v : Nat) : Lib.NumEnd Int := match numV ng v with | some x => .ok x | none => .range
theorem e64 : 2 ^ 64 - 1 = 18446744073709551615 := by simp
theorem e63 : 2 ^ (64 - 1) = 9223372036854775808 := by simp
theorem z64 : 0 < 18446744073709551616 := by omega
theorem uintB (ds : List UInt8) (hd : ∀ x ∈ ds, isDg x = true) (hne : ds ≠ []) : Lib.parseUintB 64 ds = if dval ds < 18446744073709551616 then .ok (dval ds) else .range := by
  unfold Lib.parseUintB
  rw [if_neg hne, e64]
  exact uint_digits ds 0 hd z64
theorem numV_t (v : Nat) (h : v ≤ 9223372036854775808) : numV true v = some (-(v : Int)) := by
  unfold numV; rw [if_pos rfl, if_pos h]
theorem numV_tn (v : Nat) (h : ¬ v ≤ 9223372036854775808) : numV true v = none := by
  unfold numV; rw [if_pos rfl, if_neg h]
theorem numV_f (v : Nat) (h : v < 9223372036854775808) : numV false v = some (v : Int) := by
  unfold numV; rw [if_neg Bool.false_ne_true, if_pos h]
theorem numV_fn (v : Nat) (h : ¬ v < 9223372036854775808) : numV false v = none := by
  unfold numV; rw [if_neg Bool.false_ne_true, if_neg h]
theorem numE_t (v : Nat) : (if ¬True ∧ 9223372036854775808 ≤ v then (.range : Lib.NumEnd Int) else if True ∧ 9223372036854775808 < v then .range else .ok (if True then -(v : Int) else v)) = numE true v := by
  rw [if_neg (fun h => h.1 trivial)]
  unfold numE
  by_cases h2 : v ≤ 9223372036854775808
  · rw [numV_t v h2, if_neg (fun h => Nat.not_lt.2 h2 h.2), if_pos trivial]
  · rw [numV_tn v h2, if_pos ⟨trivial, Nat.not_le.1 h2⟩]
theorem numE_f (v : Nat) : (if ¬False ∧ 9223372036854775808 ≤ v then (.range : Lib.NumEnd Int) else if False ∧ 9223372036854775808 < v then .range else .ok (if False then -(v : Int) else v)) = numE false v := by
  rw [if_neg (fun h : False ∧ 9223372036854775808 < v => h.1)]
  unfold numE
  rcases Nat.lt_or_ge v 9223372036854775808 with h2 | h2
  · rw [if_neg (fun h => Nat.not_le.2 h2 h.2), numV_f v h2, if_neg (fun h => h)]
  · rw [if_pos ⟨fun h => h, h2⟩, numV_fn v (fun h => Nat.not_lt.2 h2 h)]
theorem numE_big (ng : Bool) (v : Nat) (h : ¬ v < 18446744073709551616) : numE ng v = .range := by
  unfold numE
  cases ng
  · rw [numV_fn v (by omega)]
  · rw [numV_tn v (by omega)]
theorem parse_digits (ng : Bool) (ds : List UInt8) (hd : ∀ x ∈ ds, isDg x = true) (hne : ds ≠ []) : Lib.parseIntB 64 (sgnL ng ++ ds) = numE ng (dval ds) := by
  have hu := uintB ds hd hne
  cases ng with
  | true =>
    show Lib.parseIntB 64 (45 :: ds) = _
    unfold Lib.parseIntB
    simp only [show (UInt8.toNat 45) = 45 from rfl]
    rw [if_pos (Or.inr trivial), hu, e63]
    by_cases h : dval ds < 18446744073709551616
    · rw [if_pos h]; exact numE_t _
    · rw [if_neg h, numE_big _ _ h]
  | false =>
    cases ds with
    | nil => exact absurd rfl hne
    | cons c r =>
      have hc := hd c (by simp)
      simp [isDg] at hc
      show Lib.parseIntB 64 (c :: r) = _
      unfold Lib.parseIntB
      have h45 : (c.toNat = 45) = False := by simp; omega
      simp only [h45]
      rw [if_neg (fun h => h.elim (by omega) id), hu, e63]
      by_cases h : dval (c :: r) < 18446744073709551616
      · rw [if_pos h]; exact numE_f _
      · rw [if_neg h, numE_big _ _ h]
theorem bytes_below (w : World) (t : _) : Below w.heap.size w (Lib.bytesWorld w 5 t) := Lib.bytesWorld_below _ _ _
end Go.Proofs.Ytcidijjbcebcbaa
namespace Go.Proofs.Ytcidijjbcebcbaa
open Go.RowKit

theorem trim_dig (l : List UInt8) : trimL [45] l = digitsOf l := by
  unfold trimL digitsOf neg1
  cases l with
  | nil => rfl
  | cons c r =>
    by_cases h : c = 45
    · subst h; rfl
    · have h1 : ([45] : List UInt8).isPrefixOf (c :: r) = false := by simp [List.isPrefixOf]; exact fun e => h e.symm
      have h2 : ((c :: r).head? == some 45) = false := by simp [h]
      rw [h1, h2]; rfl
theorem sgn_digits (l : List UInt8) : sgnL (neg1 l) ++ digitsOf l = l := by
  unfold digitsOf sgnL
  by_cases h : neg1 l = true
  · rw [if_pos h, if_pos h]
    cases l with
    | nil => simp [neg1] at h
    | cons c r => simp [neg1] at h; subst h; rfl
  · rw [if_neg h, if_neg h]; rfl
theorem sgnL_len (l : List UInt8) : (sgnL (neg1 l)).length = sgn1 l := by
  unfold sgnL sgn1; split <;> rfl
theorem take_digits (l : List UInt8) (n : Nat) : l.take (n + sgn1 l) = sgnL (neg1 l) ++ (digitsOf l).take n := by
  have h := sgn_digits l
  have h2 := sgnL_len l
  generalize neg1 l = ng at *
  generalize digitsOf l = D at *
  generalize sgn1 l = g at *
  subst h
  rw [List.take_append, h2, List.take_of_length_le (by omega), show n + g - g = n by omega]
theorem numS_a {l : List UInt8} (h : spanN isDg (digitsOf l) = 0) : numS l = none := by unfold numS; rw [if_pos (.inl h)]
theorem numS_b {l : List UInt8} (h : spanN isDg (digitsOf l) ≠ spanN isWd (digitsOf l)) : numS l = none := by unfold numS; rw [if_pos (.inr h)]
theorem numS_c {l : List UInt8} (h : ¬ spanN isDg (digitsOf l) = 0) (h1 : spanN isDg (digitsOf l) = spanN isWd (digitsOf l)) (h2 : (digitsOf l).head? = some 48 ∧ 1 < spanN isDg (digitsOf l) + sgn1 l) : numS l = none := by
  unfold numS; rw [if_neg (fun h3 => h3.elim h (fun h4 => h4 h1)), if_pos h2]
theorem numS_d {l : List UInt8} (h : ¬ spanN isDg (digitsOf l) = 0) (h1 : spanN isDg (digitsOf l) = spanN isWd (digitsOf l)) (h2 : ¬ ((digitsOf l).head? = some 48 ∧ 1 < spanN isDg (digitsOf l) + sgn1 l)) :
    numS l = (numV (neg1 l) (dval ((digitsOf l).take (spanN isDg (digitsOf l))))).map (fun v => (⟨2, [], v, 0⟩, spanN isDg (digitsOf l) + sgn1 l)) := by
  unfold numS; rw [if_neg (fun h3 => h3.elim h (fun h4 => h4 h1)), if_neg h2]
theorem head_idx {D : List UInt8} (h : 0 < D.length) : D.head? = some (D[0]) := by
  cases D with
  | nil => simp at h
  | cons c r => rfl
abbrev boxW (w : World) : World := w.alloc (.cells z31 86)
end Go.Proofs.Ytcidijjbcebcbaa
namespace Go.Proofs.Ytcidijjbcebcbaa
open Go.RowKit Go.Joins

def bytesV (l : List UInt8) : List Value := l.map fun b => .int .u8 (b.toNat : Int)

theorem Try.info5 : (Try.prog.info? 5).map (fun i => (i.zero, i.size, i.bytes)) = some (some (.int .u8 0), 1, 1) := by kernel_rfl
theorem alloc_cell (w : World) (x : Value) (t : TypeId) : (w.alloc (.cells #[x] t)).cell? ⟨w.heap.size, 0, none⟩ = some x := by simp [go_sem]
theorem app1 {ops : Array Oper} {rest : List Oper} {o : Oper} {a : Act} {Q : Exit → Act → World → Prop} {w : World} {B n : Nat} {xs : List Value} {v c : Value} {g : Nat}
    (hgd : o.guard = none) (s x : Operand) (ho : o.op = .call { callee := .builtin .append, args := #[s, x], argTypes := #[138, 138] })
    (hs : a.eval s = v) (hown : w.ownsRow B 5 1 v n xs) (hx : a.eval x = .slice (some ⟨g, 0, none⟩) 1 1) (hc : w.cell? ⟨g, 0, none⟩ = some c) (h1 : c.oneCell' = true) (hn : n ≤ 1000000) (hB : B ≤ w.heap.size)
    (h : ∀ v' w', w'.ownsRow B 5 1 v' (n + 1) (xs ++ [c]) → Below B w w' → wpList Try.prog ops Q rest (a.put o.dst v') w') : wpList Try.prog ops Q (o :: rest) a w := by
  obtain ⟨i0, hi, hz0, hz1, hz2⟩ := info_parts Try.info5
  refine wpList_append_own w hgd s x 138 ho B 5 i0 (.int .u8 0) 1 1 Try.underlying138 hi hz0 hz1 hz2 rfl (by decide) v n xs hs hown ⟨g, 0, none⟩ 1 1 [c] hx rfl ?_ ?_ ?_ ?_ hB ?_
  · intro j u hj
    match j, hj with
    | 0, hj => simp at hj; subst hj; simpa [Addr.add] using hc
  · intro u hu; simp at hu; subst hu; exact h1
  · unfold maxLen; omega
  · omega
  · intro v' w' h1 h2 _
    exact h v' w' h1 ((Below.refl B w).grown h2 hB (fun k e => (hown.lt k e).1))
theorem bytesV_snoc (l : List UInt8) (c : UInt8) : bytesV l ++ [.int .u8 (c.toNat : Int)] = bytesV (l ++ [c]) := by simp [bytesV]

theorem conv_own {w : World} {B n g cap : Nat} {l : List UInt8} (h : w.ownsRow B 5 1 (.slice (some ⟨g, 0, none⟩) n cap) n (bytesV l)) :
    (convert 138 9 (.slice (some ⟨g, 0, none⟩) n cap)).run Try.prog w = .ok (.string ⟨l.toArray⟩) w := by
  have hn : n = l.length := by have := h.1; simp [bytesV] at this; omega
  subst hn
  refine run_convert_bytes_back w 138 9 5 ⟨g, 0, none⟩ cap l Try.underlying138 Try.underlying5 Try.underlying9 ?_
  intro j hj
  have hx := h.cells (g := g) rfl j (.int .u8 (l[j].toNat : Int)) (by simp [bytesV, List.getElem?_eq_getElem hj])
  exact hx
theorem own_cast {w : World} {B n m : Nat} {v : Value} {xs ys : List Value} (h : w.ownsRow B 5 1 v n xs) (hn : n = m) (hx : xs = ys) : w.ownsRow B 5 1 v m ys := by subst hn; subst hx; exact h

end Go.Proofs.Ytcidijjbcebcbaa
namespace Go.Proofs.Ytcidijjbcebcbaa
open Go.RowKit Go.Joins

theorem tx_no1 (acc r : List UInt8) (k : Nat) {c : UInt8} (h : nSl c = false) : txtF acc true k (c :: r) = none := by simp [txtF, h]
theorem tx_no2 (acc r : List UInt8) (k : Nat) (sl : Bool) (c : UInt8) (h : 64 < acc.length) : txtF acc sl k (c :: r) = none := by simp [txtF, h]
theorem tx_end (acc r : List UInt8) (k : Nat) {c : UInt8} (h : ¬ 64 < acc.length) (hc : c.toNat = 34) : txtF acc false k (c :: r) = some (acc, k + 2) := by
  obtain rfl : c = 34 := UInt8.toNat_inj.1 hc
  simp [txtF, h]
theorem tx_sl (acc r : List UInt8) (k : Nat) {c : UInt8} (h : ¬ 64 < acc.length) (hc : c.toNat = 92) : txtF acc false k (c :: r) = txtF acc true (k + 1) r := by
  obtain rfl : c = 92 := UInt8.toNat_inj.1 hc
  simp [txtF, h]
theorem tx_app0 (acc r : List UInt8) (k : Nat) {c : UInt8} (h : ¬ 64 < acc.length) (h1 : ¬ c.toNat = 34) (h2 : ¬ c.toNat = 92) : txtF acc false k (c :: r) = txtF (acc ++ [c]) false (k + 1) r := by
  have h3 : ¬ c = 34 := fun e => h1 (by rw [e]; rfl)
  have h4 : ¬ c = 92 := fun e => h2 (by rw [e]; rfl)
  simp [txtF, h, h3, h4]
theorem tx_app1 (acc r : List UInt8) (k : Nat) {c : UInt8} (h : ¬ 64 < acc.length) (h1 : nSl c = true) : txtF acc true k (c :: r) = txtF (acc ++ [c]) false (k + 1) r := by
  simp [txtF, h, h1]
theorem tx_nil (acc : List UInt8) (k : Nat) (sl : Bool) : txtF acc sl k [] = none := rfl
theorem drop_at {l : List UInt8} {k : Nat} (h : k < l.length) : l.drop k = l[k] :: l.drop (k + 1) := by simp
theorem textS_no {l : List UInt8} (h : txtF [] false 0 l.tail = none) : textS l = none := by unfold textS; rw [h]
theorem textS_yes (l b : List UInt8) (n : Nat) (h : txtF [] false 0 l.tail = some (b, n)) : textS l = some (⟨3, b, 0, 0⟩, n) := by unfold textS; rw [h]
theorem conv_own' {w : World} {B n : Nat} {v : Value} {l : List UInt8} (h : w.ownsRow B 5 1 v n (bytesV l)) (hn : n = l.length) : (convert 138 9 v).run Try.prog w = .ok (.string (St l)) w := by
  rcases ownsRow_forms h with ⟨rfl, h0⟩ | ⟨g, cap, rfl⟩
  · obtain rfl : l = [] := List.eq_nil_of_length_eq_zero (by omega)
    have u41 := Try.underlying138
    have u9 := Try.underlying9
    have u5 := Try.underlying5
    simp [convert, run_underlying u41, run_underlying u9, run_underlying u5, Conv.bytesToString]; rfl
  · exact conv_own h
/-- The text's bytes so far. -/
def Tb (w wr : World) (v : Value) (acc : List UInt8) : Prop := wr.ownsRow (w.heap.size + 1) 5 1 v acc.length (bytesV acc) ∧ Bx wr w.heap.size (.int .i64 0) (.string ⟨#[]⟩) (.int .i64 0) (.int .i64 0) ∧ Below w.heap.size w wr ∧ w.heap.size + 1 ≤ wr.heap.size
theorem Tb.app {w wr w1 : World} {v v1 : Value} {acc : List UInt8} {c : UInt8} (h : Tb w wr v acc) (ho : w1.ownsRow (w.heap.size + 1) 5 1 v1 (acc.length + 1) (bytesV acc ++ [.int .u8 (c.toNat : Int)])) (hb : Below (w.heap.size + 1) (wr.alloc (.cells #[.int .u8 (c.toNat : Int)] 5)) w1) : Tb w w1 v1 (acc ++ [c]) := by
  obtain ⟨h1, h2, h3, h4⟩ := h
  refine ⟨own_cast ho (by simp) (by simp [bytesV]), ?_, (h3.alloc (by omega) _).trans (hb.mono (by omega)), by have := hb.size; simp at this; omega⟩
  have hlt := lt_of_block h2
  show w1.heap[w.heap.size]? = _
  rw [hb.block _ (by omega), Below.heap_alloc _ _ _ hlt]
  exact h2
end Go.Proofs.Ytcidijjbcebcbaa
namespace Go.Proofs.Ytcidijjbcebcbaa
open Go.RowKit Go.Joins

theorem ansV_form (x : Option (Tk × Nat)) : ∃ (k : Int) (s : List UInt8) (n a m : Int), ansV x = .tuple #[TV k s n a, .int .i64 m] := by
  cases x with
  | none => exact ⟨_, _, _, _, _, rfl⟩
  | some y => obtain ⟨t, n⟩ := y; exact ⟨_, _, _, _, _, rfl⟩
theorem firstS_w {l : List UInt8} (h : 0 < l.length) (hc : isLe l[0] = true) : firstS l = wordS l := by
  cases l with
  | nil => simp at h
  | cons c r => have hc : isLe c = true := hc; simp [firstS, hc]
theorem firstS_n {l : List UInt8} (h : 0 < l.length) (hc : isLe l[0] = false) (h2 : l[0].toNat = 45 ∨ isDg l[0] = true) : firstS l = numS l := by
  cases l with
  | nil => simp at h
  | cons c r =>
    have hc : isLe c = false := hc
    have h2 : c.toNat = 45 ∨ isDg c = true := h2
    rcases h2 with h2 | h2
    · obtain rfl : c = 45 := UInt8.toNat_inj.1 h2
      simp [firstS, hc]
    · simp [firstS, hc, h2]
theorem firstS_t {l : List UInt8} (h : 0 < l.length) (hc : l[0].toNat = 34) : firstS l = textS l := by
  cases l with
  | nil => simp at h
  | cons c r =>
    obtain rfl : c = 34 := UInt8.toNat_inj.1 hc
    simp [firstS, isLe, isDg]
theorem firstS_s {l : List UInt8} (h : 0 < l.length) (hc : isLe l[0] = false) (h2 : ¬ l[0].toNat = 45) (h3 : isDg l[0] = false) (h4 : ¬ l[0].toNat = 34) : firstS l = signS l := by
  cases l with
  | nil => simp at h
  | cons c r =>
    have hc : isLe c = false := hc
    have h3 : isDg c = false := h3
    have h2 : ¬ c = 45 := fun e => h2 (by show c.toNat = 45; rw [e]; rfl)
    have h4 : ¬ c = 34 := fun e => h4 (by show c.toNat = 34; rw [e]; rfl)
    simp [firstS, hc, h3, h2, h4]
end Go.Proofs.Ytcidijjbcebcbaa
namespace Go.Proofs.Ytcidijjbcebcbaa
open Go.RowKit Go.Joins

def tkC (t : Tk) : List Value := [.int .i64 t.kind, .string (St t.s), .int .i64 t.n, .int .i64 t.at_]
def tksC (ts : List Tk) : List Value := ts.flatMap tkC
theorem tksC_snoc (ts : List Tk) (t : Tk) : tksC ts ++ tkC t = tksC (ts ++ [t]) := by simp [tksC]
theorem tksC_len (ts : List Tk) : (tksC ts).length = ts.length * 4 := by
  induction ts with
  | nil => rfl
  | cons t r ih => simp only [tksC, List.flatMap_cons, List.length_append, List.length_cons] at ih ⊢; rw [ih]; simp [tkC]; omega
/-- A row of tokens of one's own, of blocks from B on. -/
def Tr (B : Nat) (w : World) (v : Value) (ts : List Tk) : Prop := w.ownsRow B 86 4 v ts.length (tksC ts)
theorem row_on {w w' : World} {B e k n : Nat} {v : Value} {xs : List Value} (h : w.ownsRow B e k v n xs) (hb : Below w.heap.size w w') : w'.ownsRow B e k v n xs := by
  obtain ⟨h1, h2⟩ := h
  refine ⟨h1, ?_⟩
  rcases h2 with h2 | ⟨g, cap, cur, rfl, hg, hc, hr⟩
  · exact .inl h2
  · exact .inr ⟨g, cap, cur, rfl, hg, block_on hc hb, hr⟩
theorem Tr.on {w w' : World} {B : Nat} {v : Value} {ts : List Tk} (h : Tr B w v ts) (hb : Below w.heap.size w w') : Tr B w' v ts := row_on h hb
theorem Tr.nil (B : Nat) (w : World) : Tr B w (.slice none 0 0) [] := World.ownsRow_nil _ _ _ _
theorem Try.info86 : (Try.prog.info? 86).map (fun i => (i.zero, i.size, i.bytes)) = some (some (.agg #[.int .i64 0, .string ⟨#[]⟩, .int .i64 0, .int .i64 0]), 4, 40) := by kernel_rfl
theorem appT {ops : Array Oper} {rest : List Oper} {o : Oper} {a : Act} {Q : Exit → Act → World → Prop} {w : World} {B : Nat} {v : Value} {g : Nat} {ts : List Tk} {t : Tk}
    (hgd : o.guard = none) (s x : Operand) (ho : o.op = .call { callee := .builtin .append, args := #[s, x], argTypes := #[41, 41] })
    (hs : a.eval s = v) (hown : Tr B w v ts) (hx : a.eval x = .slice (some ⟨g, 0, none⟩) 1 1) (hc : Bx w g (.int .i64 t.kind) (.string (St t.s)) (.int .i64 t.n) (.int .i64 t.at_)) (hn : ts.length ≤ 1000000) (hB : B ≤ w.heap.size)
    (h : ∀ v' w', Tr B w' v' (ts ++ [t]) → Below B w w' → wpList Try.prog ops Q rest (a.put o.dst v') w') : wpList Try.prog ops Q (o :: rest) a w := by
  obtain ⟨i0, hi, hz0, hz1, hz2⟩ := info_parts Try.info86
  obtain ⟨c0, c1, c2, c3⟩ := hc.cells
  refine wpList_append_own w hgd s x 41 ho B 86 i0 _ 4 40 Try.underlying41 hi hz0 hz1 hz2 rfl (by decide) v ts.length _ hs hown ⟨g, 0, none⟩ 1 1 (tkC t) hx rfl ?_ ?_ ?_ ?_ hB ?_
  · intro j u hj
    match j, hj with
    | 0, hj => simp [tkC] at hj; subst hj; simpa [Addr.add] using c0
    | 1, hj => simp [tkC] at hj; subst hj; simpa [Addr.add] using c1
    | 2, hj => simp [tkC] at hj; subst hj; simpa [Addr.add] using c2
    | 3, hj => simp [tkC] at hj; subst hj; simpa [Addr.add] using c3
    | n + 4, hj => simp [tkC] at hj
  · intro u hu; simp [tkC] at hu; rcases hu with rfl | rfl | rfl | rfl <;> rfl
  · unfold maxLen; omega
  · omega
  · intro v' w' h1 h2 _
    refine h v' w' ?_ ((Below.refl B w).grown h2 hB (fun k e => (hown.lt k e).1))
    unfold Tr
    rw [← tksC_snoc, List.length_append]
    exact h1
theorem Tr.alloc {w : World} {B : Nat} {v : Value} {ts : List Tk} (h : Tr B w v ts) (o : Obj) : Tr B (w.alloc o) v ts := World.ownsRow.alloc h o
theorem two_boxes (w : World) (o : Obj) (c0 c1 c2 c3 : Value) : Bx ((w.alloc o).alloc (.cells #[c0, c1, c2, c3] 86)) (w.heap.size + 1) c0 c1 c2 c3 := by
  have h := Bx.made (w.alloc o) c0 c1 c2 c3
  rw [World.size_alloc] at h
  exact h
theorem below_two {w0 w w' : World} {o1 o2 : Obj} (h : Below w0.heap.size w0 w) (h2 : Below w0.heap.size ((w.alloc o1).alloc o2) w') : Below w0.heap.size w0 w' :=
  ((h.alloc h.size o1).alloc (by have := h.size; simp; omega) o2).trans h2
/-- What Lex answers: the tokens, the place, the error. -/
def lexO (l : List UInt8) : List Tk × Nat × Int :=
  if 2048 < l.length then ([], 0, 2) else match lexA 0 l with
    | .inl a => ([], a, 110)
    | .inr ts => (ts, 0, 0)
def joinT (ts : List Tk) : Nat ⊕ List Tk → Nat ⊕ List Tk
  | .inl e => .inl e
  | .inr m => .inr (ts ++ m)
theorem lexO_long {l : List UInt8} (h : 2048 < l.length) : lexO l = ([], 0, 2) := by unfold lexO; rw [if_pos h]
theorem lexO_bad {l : List UInt8} {a : Nat} (h : ¬ 2048 < l.length) (h2 : lexA 0 l = .inl a) : lexO l = ([], a, 110) := by unfold lexO; rw [if_neg h, h2]
theorem lexO_ok {l : List UInt8} {ts : List Tk} (h : ¬ 2048 < l.length) (h2 : lexA 0 l = .inr ts) : lexO l = (ts, 0, 0) := by unfold lexO; rw [if_neg h, h2]
theorem join_end {l : List UInt8} {ts : List Tk} {k : Nat} (h : lexA 0 l = joinT ts (lexA k (l.drop k))) (hk : ¬ k < l.length) : lexA 0 l = .inr ts := by
  rw [h, List.drop_of_length_le (by omega), lexA_nil]; simp [joinT]
theorem join_bad {l : List UInt8} {ts : List Tk} {k : Nat} (h : lexA 0 l = joinT ts (lexA k (l.drop k))) (hk : k < l.length) (hb : isBl l[k] = false) (hf : firstS (l.drop k) = none) : lexA 0 l = .inl k := by
  rw [drop_at hk] at hf h
  rw [h, lexA_no k hb hf]; rfl
theorem join_tok {l : List UInt8} {ts : List Tk} {k n : Nat} {t : Tk} (h : lexA 0 l = joinT ts (lexA k (l.drop k))) (hk : k < l.length) (hb : isBl l[k] = false) (hf : firstS (l.drop k) = some (t, n)) :
    lexA 0 l = joinT (ts ++ [{ t with at_ := k }]) (lexA (k + n) (l.drop (k + n))) := by
  rw [drop_at hk] at hf h
  rw [h, lexA_some k hb hf, ← drop_at hk, List.drop_drop]
  cases lexA (k + n) (l.drop (k + n)) <;> simp [joinT]
theorem join_sp {l : List UInt8} {ts : List Tk} {k : Nat} (h : lexA 0 l = joinT ts (lexA k (l.drop k))) : lexA 0 l = joinT ts (lexA (k + spanN isBl (l.drop k)) (l.drop (k + spanN isBl (l.drop k)))) := by
  rw [h, lexA_span k (l.drop k), List.drop_drop]
def Nb (l : List UInt8) (k : Nat) : Prop := ∀ h : k < l.length, isBl l[k] = false
theorem stop_sp (l : List UInt8) (k : Nat) : Nb l (k + spanN isBl (l.drop k)) := by
  intro h
  have := spanN_stop isBl (l.drop k) (by simp; omega)
  rw [List.getElem_drop] at this
  exact this
/-- The loop's state: how far, which tokens. -/
def Lq (w wr : World) (l : List UInt8) (v : Value) (k : Nat) (ts : List Tk) : Prop :=
  lexA 0 l = joinT ts (lexA k (l.drop k)) ∧ Nb l k ∧ ts.length ≤ k ∧ Tr w.heap.size wr v ts ∧ Below w.heap.size w wr
def LexP (l : List UInt8) (w : World) (e : Ending) (w' : World) : Prop :=
  ∃ v, e = .returned (.tuple #[v, .int .i64 ((lexO l).2.1 : Nat), .int .i64 (lexO l).2.2]) ∧ Tr w.heap.size w' v (lexO l).1 ∧ Below w.heap.size w w'
end Go.Proofs.Ytcidijjbcebcbaa
namespace Go.Proofs.Ytcidijjbcebcbaa
open Go.RowKit Go.Joins

section
variable {ts : List Tp} {w : World} {tv : Value}
theorem q_box {w w1 w2 : World} {v v0 : Value} {ns : List Np} (h1 : w1.heap[w.heap.size]? = some (.cells #[v0] 24 (0, 0))) (hb0 : Below w.heap.size w w1) (hn : Nq w1.heap.size w2 v ns) (hb : Below w1.heap.size w1 w2) :
    (w2.setCell ⟨w.heap.size, 0, none⟩ v).heap[w.heap.size]? = some (.cells #[v] 24 (0, 0)) ∧ Nq w.heap.size (w2.setCell ⟨w.heap.size, 0, none⟩ v) v ns ∧ Below w.heap.size w (w2.setCell ⟨w.heap.size, 0, none⟩ v) := by
  have k := block_on h1 hb
  have hl := lt_of_block h1
  refine ⟨?_, ?_, ?_⟩
  · have := block_set k 0 v; simpa using this
  · exact (hn.kp (Kp.set (T := fun k => k = w.heap.size) rfl _) (fun k e => by omega)).le hb0.size
  · exact (hb0.trans (hb.mono hb0.size)).setCell (by simp) _
theorem q_box2 {w w1 w2 W : World} {v v0 : Value} {ns : List Np} (h1 : w1.heap[w.heap.size]? = some (.cells #[v0] 24 (0, 0))) (hb0 : Below w.heap.size w w1) (hn : Nq w1.heap.size w2 v ns) (hb : Below w1.heap.size w1 w2) (hk : Kp (fun k => k = w.heap.size) w2 W) : Nq w.heap.size W v ns ∧ Below w.heap.size w W := by
  have hl := lt_of_block h1
  exact ⟨(hn.kp hk (fun k e => by omega)).le hb0.size, (hb0.trans (hb.mono hb0.size)).trans (hk.below (Nat.le_trans hb0.size hb.size) (fun k e => by omega))⟩
theorem q_set {W : World} {n : Nat} {v0 : Value} (h : W.heap[n]? = some (.cells #[v0] 24 (0, 0))) (v : Value) : (W.setCell ⟨n, 0, none⟩ v).heap[n]? = some (.cells #[v] 24 (0, 0)) := by
  have := block_set h 0 v; simpa using this
/- Lex's tokens as the reader has them. -/
def tp (t : Tk) : Tp := ⟨(t.kind : Int), t.s, t.n, (t.at_ : Int)⟩
theorem SlAt.map {α β : Type} {Q : Nat → Prop} {e1 : α → List Value} {e2 : β → List Value} {k : Nat} {w : World} {v : Value} {xs : List α} {f : α → β} (h : SlAt Q e1 k w v xs) (he : ∀ x, e2 (f x) = e1 x) : SlAt Q e2 k w v (xs.map f) := by
  obtain ⟨p, cap, hv, hc, hx⟩ := h
  refine ⟨p, cap, by simpa using hv, by simpa using hc, fun hne => ?_⟩
  obtain ⟨b, o, hp, hQ, hj⟩ := hx (by simpa using hne)
  refine ⟨b, o, hp, hQ, fun j y hy => ?_⟩
  rw [List.getElem?_map] at hy
  cases hx : xs[j]? with
  | none => rw [hx] at hy; cases hy
  | some x => rw [hx] at hy; cases hy; rw [he]; exact hj j x hx
theorem Tr.sl2 {B : Nat} {w : World} {v : Value} {tks : List Tk} (h : Tr B w v tks) : SlAt (fun b => B ≤ b ∧ b < w.heap.size) Tp.cells 4 w v (tks.map tp) :=
  (Own.sl (enc := tkC) (k := 4) (e := 86) h (fun _ => rfl)).map (fun _ => rfl)
theorem Tr.sl {B : Nat} {w : World} {v : Value} {tks : List Tk} (h : Tr B w v tks) : SlAt (fun b => b < w.heap.size) Tp.cells 4 w v (tks.map tp) :=
  ((Own.sl (enc := tkC) (k := 4) (e := 86) h (fun _ => rfl)).imp (fun _ hb => hb.2)).map (fun _ => rfl)
def placeS (tks : List Tk) (n len : Nat) : Nat := match tks[n]? with
  | some t => t.at_
  | none => len
/- What Query answers. -/
def queryO (l : List UInt8) : List Np × Nat × Int := match lexO l with
  | (tks, a, e) => if e = 0 then (if (parseS (tks.map tp)).2.2 = 0 then ((parseS (tks.map tp)).1, 0, 0) else ([], placeS tks (parseS (tks.map tp)).2.1 l.length, (parseS (tks.map tp)).2.2)) else ([], a, e)
end
end Go.Proofs.Ytcidijjbcebcbaa
namespace Go.Proofs.Ytcidijjbcebcbaa
open Go.RowKit Go.Joins

/- The tables of words lie where the program's text lays them. -/
def howL : List (List UInt8) := [] :: howW
def aggL : List (List UInt8) := [] :: aggW
def kindL : List (List UInt8) := [[], []] ++ stepW ++ [[], [], wAnd, wOr]
def belowN (k : Int) : Int :=
  if k = 1 ∨ k = 14 ∨ k = 15 then 0 else if k = 3 ∨ k = 4 ∨ k = 5 ∨ k = 6 ∨ k = 13 then 1 else if k = 2 ∨ k = 7 ∨ k = 8 ∨ k = 11 ∨ k = 12 then 2 else -1
def bindsN (k : Int) : Int := if k = 12 then 1 else if k = 11 then 2 else 3
def wordL (t : List (List UInt8)) (k : Int) : List UInt8 := if 0 ≤ k ∧ k < 7 then t.getD k.toNat [] else []
end Go.Proofs.Ytcidijjbcebcbaa
namespace Go.Proofs.Ytcidijjbcebcbaa
open Go.RowKit Go.Joins

section
variable {ts : List Tp} {w : World} {tv : Value}
end
end Go.Proofs.Ytcidijjbcebcbaa
