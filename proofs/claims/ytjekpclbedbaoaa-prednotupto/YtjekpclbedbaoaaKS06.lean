/-
  What oneOf, how, agg, value and the two lists return.
  What agg, the two lists, lay and end do.
  What lay and end do.
  What fetch, chain, both, cond, inBrackets and not do.
  What inBrackets, not and the steps of a query do.
  What keep, align, group and top do.
  What group does.
  What step and query do.
  What whole comes to.
  What Parse and Query return.
  A query with one of the six steps behind it.
  A query, and the same with brackets about its condition: the same nodes.
-/
import Derived.Test.YtjekpclbedbaoaaKS01
import Derived.Test.YtjekpclbedbaoaaKS04
import Derived.Test.YtjekpclbedbaoaaKS05
import Derived.Defers
import Derived.Recover
namespace Go.Proofs.Ytjekpclbedbaoaa
open Go.RowKit Go.Joins

section
variable {B : Nat} {ts : List Tp} {w : World} {rb : Nat} {tv sv : Value} {o i : Nat} {qs : List Nd}
theorem lits_sl {W : World} {rb : Nat} (hr : rb < W.heap.size) (ws : List (List UInt8)) {cs : Array Value} {n : Nat} (hc : cs = (ws.flatMap str1).toArray) (hn : n = ws.length) (hl : ws.length ≤ 1000) : SlAt (fun b => b ≠ rb) str1 1 (W.alloc (.cells cs 9)) (.slice (some ⟨W.heap.size, 0, none⟩) n n) ws := by
  subst hc
  subst hn
  have h := Own.blk (enc := str1) (k := 1) (e := 9) (B := W.heap.size) (w := W.alloc (.cells (ws.flatMap str1).toArray 9)) (xs := ws) (fun _ => rfl) (Nat.le_refl _) (alloc_block W _) (by unfold maxLen; omega)
  exact (h.sl (fun _ => rfl)).imp (fun b hb => by omega)
theorem idx_drop {ts : List Tp} {i : Nat} {ws : List (List UInt8)} {k : Nat} {x : List UInt8} (hx : ws[k]? = some x) (hw : isW ts i x = false) : idxOf ts i (ws.drop k) k = idxOf ts i (ws.drop (k + 1)) (k + 1) := by
  obtain ⟨h1, h2⟩ := List.getElem?_eq_some_iff.1 hx
  rw [List.drop_eq_getElem_cons h1, h2, idxOf, hw]; rfl
theorem idx_at {ts : List Tp} {i : Nat} {ws : List (List UInt8)} {k : Nat} {x : List UInt8} (hx : ws[k]? = some x) (hw : isW ts i x = true) : idxOf ts i (ws.drop k) k = some k := by
  obtain ⟨h1, h2⟩ := List.getElem?_eq_some_iff.1 hx
  rw [List.drop_eq_getElem_cons h1, h2, idxOf, hw]; rfl
abbrev howC : Array Value := #[.string ⟨#[61]⟩, .string ⟨#[33, 61]⟩, .string ⟨#[60]⟩, .string ⟨#[60, 61]⟩, .string ⟨#[62]⟩, .string ⟨#[62, 61]⟩]
abbrev boolC : Array Value := #[.string ⟨#[102, 97, 108, 115, 101]⟩, .string ⟨#[116, 114, 117, 101]⟩]
abbrev aggC : Array Value := #[.string ⟨#[99, 111, 117, 110, 116]⟩, .string ⟨#[115, 117, 109]⟩, .string ⟨#[109, 105, 110]⟩, .string ⟨#[109, 97, 120]⟩, .string ⟨#[109, 101, 97, 110]⟩, .string ⟨#[109, 101, 114, 103, 101]⟩]
abbrev howS (ts : List Tp) (i : Nat) : Rs Int := (oneOfS ts howW i).and fun k j => .ok (1 + (k : Int)) j
end
end Go.Proofs.Ytjekpclbedbaoaa
namespace Go.Proofs.Ytjekpclbedbaoaa
open Go.RowKit Go.Joins

section
variable {B : Nat} {ts : List Tp} {w : World} {rb : Nat} {tv sv : Value} {o i : Nat} {qs : List Nd}
abbrev zAg : Array Value := #[.int .i64 0, .string ⟨#[]⟩]
abbrev vAg (_ : World) (x : Int × List UInt8) (v : Value) : Prop := v = .agg #[.int .i64 x.1, .string (St x.2)]
theorem Kp.set2 {n g : Nat} (hn : n ≤ g) (w : World) (d0 d1 : Value) : Kp (fun k => n ≤ k) w ((w.setCell ⟨g, 0, none⟩ d0).setCell ⟨g, 1, none⟩ d1) :=
  (Kp.set (T := fun k => n ≤ k) hn _).trans (Kp.set (T := fun k => n ≤ k) hn _)
/- Where the reader stands. -/
def atOf (rb : Nat) (w : World) : Nat := match w.cell? ⟨rb, 1, none⟩ with
  | some (.int _ n) => n.toNat
  | _ => 0
theorem lists_one (W : World) (x : List UInt8) : Own str1 1 9 W.heap.size (W.alloc (.cells #[.string (St x)] 9)) (.slice (some ⟨W.heap.size, 0, none⟩) 1 1) [x] :=
  Own.blk (enc := str1) (k := 1) (e := 9) (B := W.heap.size) (w := W.alloc (.cells #[.string (St x)] 9)) (xs := [x]) (fun _ => rfl) (Nat.le_refl _) (alloc_block W _) (by unfold maxLen; simp)
abbrev vlists (n : Nat) (w : World) (l : List (List UInt8)) (v : Value) : Prop := Own str1 1 9 n w v l
theorem lista_one (W : World) (x : Int × List UInt8) : Own ag2 2 184 W.heap.size (W.alloc (.cells #[.int .i64 x.1, .string (St x.2)] 184)) (.slice (some ⟨W.heap.size, 0, none⟩) 1 1) [x] :=
  Own.blk (enc := ag2) (k := 2) (e := 184) (B := W.heap.size) (w := W.alloc (.cells #[.int .i64 x.1, .string (St x.2)] 184)) (xs := [x]) (fun _ => rfl) (Nat.le_refl _) (alloc_block W _) (by unfold maxLen; simp)
abbrev vlista (n : Nat) (w : World) (l : List (Int × List UInt8)) (v : Value) : Prop := Own ag2 2 184 n w v l
end
end Go.Proofs.Ytjekpclbedbaoaa
namespace Go.Proofs.Ytjekpclbedbaoaa
open Go.RowKit Go.Joins

section
variable {B : Nat} {ts : List Tp} {w : World} {rb : Nat} {tv sv : Value} {o i : Nat} {qs : List Nd}
theorem how_bad {s : List UInt8} {j j2 : Nat} {c : Int} (h1 : nameS ts i = .ok s j) (h2 : isW ts j wHas = false) (h3 : howS ts j = .bad j2 c) : testS ts i = .bad j2 c := by
  unfold howS at h3
  cases h4 : oneOfS ts howW j with
  | bad a b => rw [h4] at h3; simp only [Rs.and] at h3; simp [testS, h1, h2, h4, Rs.and]; simpa using h3
  | ok a b => rw [h4] at h3; simp only [Rs.and] at h3; cases h3
theorem value_bad {s : List UInt8} {j j2 j3 : Nat} {x c : Int} (h1 : nameS ts i = .ok s j) (h2 : isW ts j wHas = false) (h3 : howS ts j = .ok x j2) (h5 : valueS ts j2 = .bad j3 c) : testS ts i = .bad j3 c := by
  unfold howS at h3
  cases h4 : oneOfS ts howW j with
  | bad a b => rw [h4] at h3; simp only [Rs.and] at h3; cases h3
  | ok a b => rw [h4] at h3; simp only [Rs.and] at h3; cases h3; simp [testS, h1, h2, h4, h5, Rs.and]
theorem value_ok {s : List UInt8} {j j2 j3 : Nat} {x : Int} {y : Int × Int × List UInt8} (h1 : nameS ts i = .ok s j) (h2 : isW ts j wHas = false) (h3 : howS ts j = .ok x j2) (h5 : valueS ts j2 = .ok y j3) : testS ts i = .ok { n0 with kind := 14, s := s, n := x, vk := y.1, vn := y.2.1, vs := y.2.2 } j3 := by
  unfold howS at h3
  cases h4 : oneOfS ts howW j with
  | bad a b => rw [h4] at h3; simp only [Rs.and] at h3; cases h3
  | ok a b => rw [h4] at h3; simp only [Rs.and] at h3; cases h3; simp [testS, h1, h2, h4, h5, Rs.and]
abbrev S6 (bx : Nat) (C : Array Value) (W : World) : Prop := W.heap[bx]? = some (.cells C 44 (0, 0))
theorem s6_range {bx : Nat} {q : Nd} {W : World} (h : S6 bx q.cells.toArray W) : W.rangeAt bx 0 q.cells := fun j v hv => by rw [block_cell h, Nat.zero_add]; simpa using hv
theorem buildS_one (W : World) (q : Nd) : (Instr.buildSlice 32 1 #[(0, .agg q.cells.toArray)]).run Try.prog W = .ok (.slice (some ⟨W.heap.size, 0, none⟩) 1 1) (W.alloc (.cells ([q].flatMap Nd.cells).toArray 44)) := by
  kernel_rfl
theorem step_bs {ops : Array Oper} {o : Oper} {a : Act} {w : World} {K : Act → World → Prop} {Q : Exit → Act → World → Prop} {E : Prop} {q : Nd} (hgd : o.guard = none) (x : Operand) (ho : o.op = .buildSlice 32 1 #[(0, x)]) (hx : a.eval x = .agg q.cells.toArray)
    (h : K (a.put o.dst (.slice (some ⟨w.heap.size, 0, none⟩) 1 1)) (w.alloc (.cells ([q].flatMap Nd.cells).toArray 44))) : if Region.wanted o (yielded ops a.tmps) = true then Oper.wp Try.prog o a w K Q else E := by
  have hw : Region.wanted o (yielded ops a.tmps) = true := by simp [Region.wanted, hgd]
  rw [if_pos hw]
  unfold Oper.wp execOp
  simp only [ho, List.map_toArray, List.map_cons, List.map_nil, hx, Sem.run_bind, Sem.run_pure, buildS_one, Result.andThen_ok]
  exact h
abbrev zNd : Array Value := #[.int .i64 0, .string ⟨#[]⟩, .int .i64 0, .int .i64 0, .int .i64 0, .int .i64 0, .int .i64 0, .string ⟨#[]⟩, .int .i64 0, .int .i64 0, .int .i64 0, .int .i64 0, .int .i64 0, .int .i64 0, .int .i64 0, .int .i64 0, .slice none 0 0, .slice none 0 0, .slice none 0 0]
def vNd (B : Nat) (w : World) (x : Np) (v : Value) : Prop := ∃ q : Nd, q.np = x ∧ v = .agg q.cells.toArray ∧ NdIn B w q
theorem store_nd {ops : Array Oper} {rest : List Oper} {op : Oper} {a : Act} {w : World} {Q : Exit → Act → World → Prop} (hgd : op.guard = none) (x y : Operand) (ho : op.op = .store 44 x y) {g : Nat} {q : Nd} (hx : a.eval x = dp g) (hy : a.eval y = .agg q.cells.toArray) (h1 : q.cells.toArray.all (·.oneCell') = true) {old : Array Value} (hg : w.heap[g]? = some (.cells old 44 (0, 0))) (hs : old.size = 19)
    (h : ∀ w', w'.heap[g]? = some (.cells q.cells.toArray 44 (0, 0)) → Kp (fun k => k = g) w w' → wpList Try.prog ops Q rest (a.put op.dst undef) w') : wpList Try.prog ops Q (op :: rest) a w :=
  wpList_store_row hgd 44 x y ho hx hy hg size_node (by rw [hs]; rfl) h1 (fun w' h1 h2 _ => h w' h1 h2)
theorem load_nd {ops : Array Oper} {rest : List Oper} {op : Oper} {a : Act} {w : World} {Q : Exit → Act → World → Prop} (hgd : op.guard = none) (x : Operand) (ho : op.op = .load 44 x) {g : Nat} {q : Nd} (hx : a.eval x = dp g) (hg : w.heap[g]? = some (.cells q.cells.toArray 44 (0, 0)))
    (h : wpList Try.prog ops Q rest (a.put op.dst (.agg q.cells.toArray)) w) : wpList Try.prog ops Q (op :: rest) a w :=
  wpList_load_mid hgd 44 x ho g 0 hx q.cells _ (s6_range hg) Try.underlying44 rfl size_node h
/- A node without rows. -/
abbrev bare (n : Np) : Nd := ⟨n, .slice none 0 0, .slice none 0 0, .slice none 0 0⟩
theorem bare_in (B : Nat) (w : World) {n : Np} (h1 : n.l = []) (h2 : n.names = []) (h3 : n.aggs = []) : NdIn B w (bare n) := by
  refine ⟨?_, ?_, ?_⟩
  · show Own _ _ _ _ _ _ n.l; rw [h1]; exact Own.nil _ _ _ _ _
  · show Own _ _ _ _ _ _ n.names; rw [h2]; exact Own.nil _ _ _ _ _
  · show Own _ _ _ _ _ _ n.aggs; rw [h3]; exact Own.nil _ _ _ _ _
theorem bare_all (n : Np) : (bare n).cells.toArray.all (·.oneCell') = true := by simp [Nd.cells, Value.oneCell']
end
end Go.Proofs.Ytjekpclbedbaoaa
namespace Go.Proofs.Ytjekpclbedbaoaa
open Go.RowKit Go.Joins

section
variable {B : Nat} {ts : List Tp} {w : World} {rb : Nat} {tv sv : Value} {o i : Nat} {qs : List Nd}
abbrev fetN (s : List UInt8) (a b : Int) : Np := { n0 with kind := 1, s := s, from_ := a, to_ := b }
theorem fet_set (s : List UInt8) (a b c : Int) : (bare (fetN s a b)).cells.toArray.setIfInBounds 3 (.int .i64 c) = (bare (fetN s c b)).cells.toArray := rfl
theorem fet_set4 (s : List UInt8) (a b c : Int) : (bare (fetN s a b)).cells.toArray.setIfInBounds 4 (.int .i64 c) = (bare (fetN s a c)).cells.toArray := rfl
theorem box_set3 {W : World} {g : Nat} {s : List UInt8} {a b : Int} (h : W.heap[g]? = some (.cells (bare (fetN s a b)).cells.toArray 44 (0, 0))) (c : Int) : (W.setCell ⟨g, 3, none⟩ (.int .i64 c)).heap[g]? = some (.cells (bare (fetN s c b)).cells.toArray 44 (0, 0)) := block_set h 3 (.int .i64 c)
theorem box_set4 {W : World} {g : Nat} {s : List UInt8} {a b : Int} (h : W.heap[g]? = some (.cells (bare (fetN s a b)).cells.toArray 44 (0, 0))) (c : Int) : (W.setCell ⟨g, 4, none⟩ (.int .i64 c)).heap[g]? = some (.cells (bare (fetN s a c)).cells.toArray 44 (0, 0)) := block_set h 4 (.int .i64 c)
theorem box_c3 {W : World} {g : Nat} {s : List UInt8} {a b : Int} (h : W.heap[g]? = some (.cells (bare (fetN s a b)).cells.toArray 44 (0, 0))) : W.cell? ⟨g, 3, none⟩ = some (.int .i64 a) := block_cell h 3
theorem box_c4 {W : World} {g : Nat} {s : List UInt8} {a b : Int} (h : W.heap[g]? = some (.cells (bare (fetN s a b)).cells.toArray 44 (0, 0))) : W.cell? ⟨g, 4, none⟩ = some (.int .i64 b) := block_cell h 4
/- A node that names one or two others. -/
abbrev nam1 (W : World) (n : Np) : Nd := ⟨n, .slice (some ⟨W.heap.size, 0, none⟩) 1 1, .slice none 0 0, .slice none 0 0⟩
abbrev nam2 (W : World) (n : Np) : Nd := ⟨n, .slice (some ⟨W.heap.size, 0, none⟩) 2 2, .slice none 0 0, .slice none 0 0⟩
theorem own_ints (W : World) (l : List Int) (hl : l.length ≤ 1000) {B : Nat} (hB : B ≤ W.heap.size) : Own int1 1 3 B (W.alloc (.cells (l.flatMap int1).toArray 3)) (.slice (some ⟨W.heap.size, 0, none⟩) l.length l.length) l :=
  Own.blk (enc := int1) (k := 1) (e := 3) (B := B) (w := W.alloc (.cells (l.flatMap int1).toArray 3)) (xs := l) (fun _ => rfl) hB (alloc_block W _) (by unfold maxLen; omega)
theorem nam2_in {W : World} {n : Np} {a b : Int} {B : Nat} (hB : B ≤ W.heap.size) (h1 : n.l = [a, b]) (h2 : n.names = []) (h3 : n.aggs = []) : NdIn B (W.alloc (.cells #[.int .i64 a, .int .i64 b] 3)) (nam2 W n) := by
  refine ⟨?_, ?_, ?_⟩
  · show Own _ _ _ _ _ _ n.l; rw [h1]; exact own_ints W [a, b] (by simp) hB
  · show Own _ _ _ _ _ _ n.names; rw [h2]; exact Own.nil _ _ _ _ _
  · show Own _ _ _ _ _ _ n.aggs; rw [h3]; exact Own.nil _ _ _ _ _
theorem nam1_in {W : World} {n : Np} {a : Int} {B : Nat} (hB : B ≤ W.heap.size) (h1 : n.l = [a]) (h2 : n.names = []) (h3 : n.aggs = []) : NdIn B (W.alloc (.cells #[.int .i64 a] 3)) (nam1 W n) := by
  refine ⟨?_, ?_, ?_⟩
  · show Own _ _ _ _ _ _ n.l; rw [h1]; exact own_ints W [a] (by simp) hB
  · show Own _ _ _ _ _ _ n.names; rw [h2]; exact Own.nil _ _ _ _ _
  · show Own _ _ _ _ _ _ n.aggs; rw [h3]; exact Own.nil _ _ _ _ _
theorem map_snoc {qs : List Nd} {q : Nd} {ns : List Np} (h : qs.map (·.np) = ns) : (qs ++ [q]).map (·.np) = ns ++ [q.np] := by simp [← h]
end
end Go.Proofs.Ytjekpclbedbaoaa
namespace Go.Proofs.Ytjekpclbedbaoaa
open Go.RowKit Go.Joins

section
variable {B : Nat} {ts : List Tp} {w : World} {rb : Nat} {tv sv : Value} {o i : Nat} {qs : List Nd}
theorem mkf : ∀ (fn : Fn) (first cap : Array Value) (w : World), (Instr.makeFunc fn first cap).run Try.prog w = .ok (.func fn first cap) w := fun _ _ _ _ => rfl
theorem bad_if {α : Type} {r : Rs α} {j : Nat} {c : Int} (h : r = .bad j c) : r = .bad j c := h
abbrev whereS (c : PN) (rows i : Nat) (ns : List Np) : Rs (Np × List Np) := (c i ns).and fun r j => .ok ({ n0 with kind := 2, l := [(rows : Int), (r.1 : Int)] }, r.2) j
abbrev keepS (ts : List Tp) (rows i : Nat) (ns : List Np) : Rs (Np × List Np) := (listS ts (nameS ts) i).and fun l j => .ok ({ laidN 3 rows with names := l }, ns) j
abbrev alignS (ts : List Tp) (rows i : Nat) (ns : List Np) : Rs (Np × List Np) := (numS' ts i).and fun n j => .ok ({ laidN 4 rows with n := n }, ns) j
abbrev groupS (ts : List Tp) (rows i : Nat) (ns : List Np) : Rs (Np × List Np) := if isW ts i wColon then (listS ts (aggS ts) (i + 1)).and fun l j => .ok ({ laidN 5 rows with aggs := l }, ns) j
        else (listS ts (nameS ts) i).and fun l j => (wantS ts wColon j).and fun _ j => (listS ts (aggS ts) j).and fun g j => .ok ({ laidN 5 rows with names := l, aggs := g }, ns) j
abbrev topS (ts : List Tp) (rows i : Nat) (ns : List Np) : Rs (Np × List Np) := (numS' ts i).and fun n j => (wantS ts wBy j).and fun _ j => (nameS ts j).and fun x j => .ok ({ laidN 6 rows with n := n, s := x }, ns) j
abbrev joinS (k : Int) (ts : List Tp) (d : Option PN) (rows i : Nat) (ns : List Np) : Rs (Np × List Np) := (inBr ts d i ns).and fun r j => .ok ({ n0 with kind := k, l := [(rows : Int), (r.1 : Int)] }, r.2) j
end
end Go.Proofs.Ytjekpclbedbaoaa
namespace Go.Proofs.Ytjekpclbedbaoaa
open Go.RowKit Go.Joins

section
variable {B : Nat} {ts : List Tp} {w : World} {rb : Nat} {tv sv : Value} {o i : Nat} {qs : List Nd}
theorem Own.nd {α : Type} {enc : α → List Value} {k e n g : Nat} {w' : World} {v : Value} {xs : List α} {cs : Array Value} {fz : Nat × Nat} (h : Own enc k e n w v xs) (hg : w.heap[g]? = some (.cells cs 44 fz)) (hk : Kp (fun k => k = g) w w') (he : e ≠ 44) : Own enc k e n w' v xs :=
  h.kpk hk (fun b hT c t fz hc => by subst hT; rw [hg] at hc; cases hc; exact fun e' => he e'.symm)
abbrev one3 (w : World) : Value := .slice (some ⟨w.heap.size, 0, none⟩) 1 1
theorem own_one {W : World} {B : Nat} (hB : B ≤ W.heap.size) (a : Int) : Own int1 1 3 B (W.alloc (.cells #[.int .i64 a] 3)) (one3 W) [a] := own_ints W [a] (by simp) hB
theorem nd_all {q : Nd} (h1 : q.lv.oneCell' = true) (h2 : q.nv.oneCell' = true) (h3 : q.gv.oneCell' = true) : q.cells.toArray.all (·.oneCell') = true := by
  apply all_oneCell_toArray
  intro v hv
  simp [Nd.cells] at hv
  rcases hv with rfl | rfl | rfl | rfl | rfl | rfl | rfl | rfl | rfl | rfl | rfl | rfl | rfl | rfl | rfl | rfl | rfl | rfl | rfl <;> first | rfl | assumption
theorem nd_set17 {W : World} {g : Nat} {n : Np} {lv nv gv : Value} (h : W.heap[g]? = some (.cells (⟨n, lv, nv, gv⟩ : Nd).cells.toArray 44 (0, 0))) (v : Value) (l : List (List UInt8)) : (W.setCell ⟨g, 17, none⟩ v).heap[g]? = some (.cells (⟨{ n with names := l }, lv, v, gv⟩ : Nd).cells.toArray 44 (0, 0)) := block_set h 17 v
theorem nd_set18 {W : World} {g : Nat} {n : Np} {lv nv gv : Value} (h : W.heap[g]? = some (.cells (⟨n, lv, nv, gv⟩ : Nd).cells.toArray 44 (0, 0))) (v : Value) (l : List (Int × List UInt8)) : (W.setCell ⟨g, 18, none⟩ v).heap[g]? = some (.cells (⟨{ n with aggs := l }, lv, nv, v⟩ : Nd).cells.toArray 44 (0, 0)) := block_set h 18 v
theorem nd_set1 {W : World} {g : Nat} {n : Np} {lv nv gv : Value} (h : W.heap[g]? = some (.cells (⟨n, lv, nv, gv⟩ : Nd).cells.toArray 44 (0, 0))) (s : List UInt8) : (W.setCell ⟨g, 1, none⟩ (.string (St s))).heap[g]? = some (.cells (⟨{ n with s := s }, lv, nv, gv⟩ : Nd).cells.toArray 44 (0, 0)) := block_set h 1 (.string (St s))
theorem nd_c17 {W : World} {g : Nat} {n : Np} {lv nv gv : Value} (h : W.heap[g]? = some (.cells (⟨n, lv, nv, gv⟩ : Nd).cells.toArray 44 (0, 0))) : W.cell? ⟨g, 17, none⟩ = some nv := block_cell h 17
theorem nd_c18 {W : World} {g : Nat} {n : Np} {lv nv gv : Value} (h : W.heap[g]? = some (.cells (⟨n, lv, nv, gv⟩ : Nd).cells.toArray 44 (0, 0))) : W.cell? ⟨g, 18, none⟩ = some gv := block_cell h 18
theorem nd_c1 {W : World} {g : Nat} {n : Np} {lv nv gv : Value} (h : W.heap[g]? = some (.cells (⟨n, lv, nv, gv⟩ : Nd).cells.toArray 44 (0, 0))) : W.cell? ⟨g, 1, none⟩ = some (.string (St n.s)) := block_cell h 1
end
end Go.Proofs.Ytjekpclbedbaoaa
namespace Go.Proofs.Ytjekpclbedbaoaa
open Go.RowKit Go.Joins

section
variable {B : Nat} {ts : List Tp} {w : World} {rb : Nat} {tv sv : Value} {o i : Nat} {qs : List Nd}
end
end Go.Proofs.Ytjekpclbedbaoaa
namespace Go.Proofs.Ytjekpclbedbaoaa
open Go.RowKit Go.Joins

section
variable {B : Nat} {ts : List Tp} {w : World} {rb : Nat} {tv sv : Value} {o i : Nat} {qs : List Nd}
theorem one_at {ws : List (List UInt8)} {k : Nat} {x : List UInt8} (h : idxOf ts i ws 0 = idxOf ts i (ws.drop k) k) (hx : ws[k]? = some x) (hw : isW ts i x = true) : oneOfS ts ws i = .ok k (i + 1) := by
  unfold oneOfS; rw [h, idx_at hx hw]
theorem one_none {ws : List (List UInt8)} {k : Nat} (h : idxOf ts i ws 0 = idxOf ts i (ws.drop k) k) (hk : ws.length ≤ k) : oneOfS ts ws i = .bad i 120 := by
  unfold oneOfS; rw [h, List.drop_of_length_le hk]; rfl
theorem step_all (s : ByteArray) (f : Fn) : (#[Value.string s, .func f #[] #[]] : Array Value).all (·.oneCell') = true := by simp [Value.oneCell']
end
end Go.Proofs.Ytjekpclbedbaoaa
namespace Go.Proofs.Ytjekpclbedbaoaa
open Go.RowKit Go.Joins

section
variable {B : Nat} {ts : List Tp} {w : World} {rb : Nat} {tv sv : Value} {o i : Nat} {qs : List Nd}
structure Wh (w : World) (q : Value) (wr : World) : Prop where
  q : wr.heap[w.heap.size]? = some (.cells #[q] 34 (0, 0))
  a : ∃ x, wr.heap[w.heap.size + 1]? = some (.cells #[.int .i64 x] 3 (0, 0))
  e : ∃ x, wr.heap[w.heap.size + 1 + 1]? = some (.cells #[.int .i64 x] 29 (0, 0))
  kept : Below w.heap.size w wr
theorem heap4 (w : World) (a b c d : Obj) : ((((w.alloc a).alloc b).alloc c).alloc d).heap[w.heap.size]? = some a ∧ ((((w.alloc a).alloc b).alloc c).alloc d).heap[w.heap.size + 1]? = some b ∧ ((((w.alloc a).alloc b).alloc c).alloc d).heap[w.heap.size + 1 + 1]? = some c ∧ ((((w.alloc a).alloc b).alloc c).alloc d).heap[w.heap.size + 3]? = some d := by
  have h1 := alloc_block w a
  have h2 := alloc_block (w.alloc a) b
  have h3 := alloc_block ((w.alloc a).alloc b) c
  have h4 := alloc_block (((w.alloc a).alloc b).alloc c) d
  simp only [World.size_alloc] at h2 h3 h4
  refine ⟨?_, ?_, ?_, h4⟩
  · rw [Below.heap_alloc _ _ _ (by simp <;> omega), Below.heap_alloc _ _ _ (by simp <;> omega), Below.heap_alloc _ _ _ (by simp)]; exact h1
  · rw [Below.heap_alloc _ _ _ (by simp <;> omega), Below.heap_alloc _ _ _ (by simp)]; exact h2
  · rw [Below.heap_alloc _ _ _ (by simp)]; exact h3
theorem Wh.kp {q : Value} {wr w' : World} {T : Nat → Prop} (h : Wh w q wr) (hk : Kp T wr w') (hT : ∀ k, T k → w.heap.size + 3 ≤ k) : Wh w q w' :=
  ⟨hk.blk h.q (fun t => by have := hT _ t; omega), let ⟨x, hx⟩ := h.a; ⟨x, hk.blk hx (fun t => by have := hT _ t; omega)⟩, let ⟨x, hx⟩ := h.e; ⟨x, hk.blk hx (fun t => by have := hT _ t; omega)⟩, h.kept.trans (hk.below h.kept.size (fun k t => by have := hT _ t; omega))⟩
/- What whole returns: a row of nodes of its own. -/
def Nq (n : Nat) (w : World) (v : Value) (ns : List Np) : Prop := ∃ qs, Own Nd.cells 19 44 n w v qs ∧ (∀ q ∈ qs, NdIn n w q) ∧ qs.map (·.np) = ns
def WhP (w : World) (r : List Np × Nat × Int) (e : Ending) (w' : World) : Prop :=
  ∃ v, e = .returned (.tuple #[.agg #[v], .int .i64 (r.2.1 : Int), .int .i64 r.2.2]) ∧ Nq w.heap.size w' v r.1 ∧ Below w.heap.size w w'
theorem Nq.nil (n : Nat) (w : World) : Nq n w (.slice none 0 0) [] := ⟨[], Own.nil _ _ _ _ _, fun q hq => by simp at hq, rfl⟩
theorem Nq.kp {n : Nat} {w w' : World} {v : Value} {ns : List Np} {T : Nat → Prop} (h : Nq n w v ns) (hk : Kp T w w') (hT : ∀ k, T k → k < n) : Nq n w' v ns := by
  obtain ⟨qs, h1, h2, h3⟩ := h
  refine ⟨qs, h1.kp hk (fun g hg ht => by have := hT g ht; have := (h1.at hg).1; omega), fun q hq => ?_, h3⟩
  have hq := h2 q hq
  exact ⟨hq.l.kp hk (fun g hg ht => by have := hT g ht; have := (hq.l.at hg).1; omega), hq.n.kp hk (fun g hg ht => by have := hT g ht; have := (hq.n.at hg).1; omega), hq.g.kp hk (fun g hg ht => by have := hT g ht; have := (hq.g.at hg).1; omega)⟩
theorem Nq.on {n : Nat} {w w' : World} {v : Value} {ns : List Np} (h : Nq n w v ns) (hb : Below w.heap.size w w') : Nq n w' v ns := h.kp (T := fun _ => False) (Kp.of hb) (fun _ h => h.elim)
theorem Nq.le {n m : Nat} {w : World} {v : Value} {ns : List Np} (h : Nq n w v ns) (hm : m ≤ n) : Nq m w v ns := by
  obtain ⟨qs, h1, h2, h3⟩ := h
  exact ⟨qs, h1.le hm, fun q hq => (h2 q hq).le hm, h3⟩
/- Behind the deferred function. -/
structure We (w : World) (q : Value) (x c : Int) (W : World) : Prop where
  q : W.heap[w.heap.size]? = some (.cells #[q] 34 (0, 0))
  a : W.heap[w.heap.size + 1]? = some (.cells #[.int .i64 x] 3 (0, 0))
  e : W.heap[w.heap.size + 1 + 1]? = some (.cells #[.int .i64 c] 29 (0, 0))
  kept : Below w.heap.size w W
theorem We.of {q : Value} {wr w1 : World} (h : Wh w q wr) (hb : Below wr.heap.size wr w1) (x c : Int) : We w q x c ((w1.setCell ⟨w.heap.size + 1, 0, none⟩ (.int .i64 x)).setCell ⟨w.heap.size + 1 + 1, 0, none⟩ (.int .i64 c)) := by
  obtain ⟨xa, ha⟩ := h.a
  obtain ⟨xe, he⟩ := h.e
  have k1 := block_on h.q hb
  have k2 := block_on ha hb
  have k3 := block_on he hb
  refine ⟨?_, ?_, ?_, ?_⟩
  · exact (Below.heap_setCell _ _ _ _ (by simp <;> omega)).trans ((Below.heap_setCell _ _ _ _ (by simp)).trans k1)
  · refine (Below.heap_setCell _ _ _ _ (by simp)).trans ?_
    have := block_set k2 0 (.int .i64 x); simpa using this
  · have k4 : (w1.setCell ⟨w.heap.size + 1, 0, none⟩ (.int .i64 x)).heap[w.heap.size + 1 + 1]? = some (.cells #[.int .i64 xe] 29 (0, 0)) := (Below.heap_setCell _ _ _ _ (by simp)).trans k3
    have := block_set k4 0 (.int .i64 c); simpa using this
  · exact ((h.kept.trans (hb.mono h.kept.size)).setCell (by simp) _).setCell (by simp <;> omega) _
theorem Wh.put {q : Value} {wr : World} (h : Wh w q wr) (v : Value) : Wh w v (((wr.setCell ⟨w.heap.size, 0, none⟩ v).setCell ⟨w.heap.size + 1, 0, none⟩ (.int .i64 0)).setCell ⟨w.heap.size + 1 + 1, 0, none⟩ (.int .i64 0)) := by
  obtain ⟨xa, ha⟩ := h.a
  obtain ⟨xe, he⟩ := h.e
  refine ⟨?_, ⟨0, ?_⟩, ⟨0, ?_⟩, ?_⟩
  · refine (Below.heap_setCell _ _ _ _ (by simp <;> omega)).trans ((Below.heap_setCell _ _ _ _ (by simp)).trans ?_)
    have := block_set h.q 0 v; simpa using this
  · refine (Below.heap_setCell _ _ _ _ (by simp)).trans ?_
    have k : (wr.setCell ⟨w.heap.size, 0, none⟩ v).heap[w.heap.size + 1]? = _ := (Below.heap_setCell _ _ _ _ (by simp)).trans ha
    have := block_set k 0 (.int .i64 0); simpa using this
  · have k : ((wr.setCell ⟨w.heap.size, 0, none⟩ v).setCell ⟨w.heap.size + 1, 0, none⟩ (.int .i64 0)).heap[w.heap.size + 1 + 1]? = _ := (Below.heap_setCell _ _ _ _ (by simp)).trans ((Below.heap_setCell _ _ _ _ (by simp <;> omega)).trans he)
    have := block_set k 0 (.int .i64 0); simpa using this
  · exact ((h.kept.setCell (by simp) _).setCell (by simp) _).setCell (by simp <;> omega) _
theorem tq_nil {n k : Nat} (h : Tq n (.slice none 0 0) k) : k = n := by
  rcases h with h | h
  · exact h
  · cases h
theorem kp2 {n m : Nat} {w1 : World} {x c : Value} (hm : m + 2 < n) : Kp (fun k => k < n) w1 ((w1.setCell ⟨m + 1, 0, none⟩ x).setCell ⟨m + 1 + 1, 0, none⟩ c) :=
  (Kp.set (T := fun k => k < n) (by omega) _).trans (Kp.set (T := fun k => k < n) (by omega) _)
end
end Go.Proofs.Ytjekpclbedbaoaa
namespace Go.Proofs.Ytjekpclbedbaoaa
open Go.RowKit Go.Joins

section
variable {ts : List Tp} {w : World} {tv : Value}
theorem q_box {w w1 w2 : World} {v v0 : Value} {ns : List Np} (h1 : w1.heap[w.heap.size]? = some (.cells #[v0] 34 (0, 0))) (hb0 : Below w.heap.size w w1) (hn : Nq w1.heap.size w2 v ns) (hb : Below w1.heap.size w1 w2) :
    (w2.setCell ⟨w.heap.size, 0, none⟩ v).heap[w.heap.size]? = some (.cells #[v] 34 (0, 0)) ∧ Nq w.heap.size (w2.setCell ⟨w.heap.size, 0, none⟩ v) v ns ∧ Below w.heap.size w (w2.setCell ⟨w.heap.size, 0, none⟩ v) := by
  have k := block_on h1 hb
  have hl := lt_of_block h1
  refine ⟨?_, ?_, ?_⟩
  · have := block_set k 0 v; simpa using this
  · exact (hn.kp (Kp.set (T := fun k => k = w.heap.size) rfl _) (fun k e => by omega)).le hb0.size
  · exact (hb0.trans (hb.mono hb0.size)).setCell (by simp) _
theorem q_box2 {w w1 w2 W : World} {v v0 : Value} {ns : List Np} (h1 : w1.heap[w.heap.size]? = some (.cells #[v0] 34 (0, 0))) (hb0 : Below w.heap.size w w1) (hn : Nq w1.heap.size w2 v ns) (hb : Below w1.heap.size w1 w2) (hk : Kp (fun k => k = w.heap.size) w2 W) : Nq w.heap.size W v ns ∧ Below w.heap.size w W := by
  have hl := lt_of_block h1
  exact ⟨(hn.kp hk (fun k e => by omega)).le hb0.size, (hb0.trans (hb.mono hb0.size)).trans (hk.below (Nat.le_trans hb0.size hb.size) (fun k e => by omega))⟩
theorem q_set {W : World} {n : Nat} {v0 : Value} (h : W.heap[n]? = some (.cells #[v0] 34 (0, 0))) (v : Value) : (W.setCell ⟨n, 0, none⟩ v).heap[n]? = some (.cells #[v] 34 (0, 0)) := by
  have := block_set h 0 v; simpa using this
/- Lex's tokens as the reader has them. -/
def tp (t : Tk) : Tp := ⟨(t.kind : Int), t.s, t.n, (t.at_ : Int)⟩
theorem SlAt.map {α β : Type} {Q : Nat → Prop} {e1 : α → List Value} {e2 : β → List Value} {k : Nat} {w : World} {v : Value} {xs : List α} {f : α → β} (h : SlAt Q e1 k w v xs) (he : ∀ x, e2 (f x) = e1 x) : SlAt Q e2 k w v (xs.map f) := by
  obtain ⟨p, cap, hv, hc, hx⟩ := h
  refine ⟨p, cap, by simpa using hv, by simpa using hc, fun hne => ?_⟩
  obtain ⟨b, o, hp, hQ, hj⟩ := hx (by simpa using hne)
  refine ⟨b, o, hp, hQ, fun j y hy => ?_⟩
  rw [List.getElem?_map] at hy
  cases hx : xs[j]? with
  | none => rw [hx] at hy; cases hy
  | some x => rw [hx] at hy; cases hy; rw [he]; exact hj j x hx
theorem Tr.sl2 {B : Nat} {w : World} {v : Value} {tks : List Tk} (h : Tr B w v tks) : SlAt (fun b => B ≤ b ∧ b < w.heap.size) Tp.cells 4 w v (tks.map tp) :=
  (Own.sl (enc := tkC) (k := 4) (e := 67) h (fun _ => rfl)).map (fun _ => rfl)
theorem Tr.sl {B : Nat} {w : World} {v : Value} {tks : List Tk} (h : Tr B w v tks) : SlAt (fun b => b < w.heap.size) Tp.cells 4 w v (tks.map tp) :=
  ((Own.sl (enc := tkC) (k := 4) (e := 67) h (fun _ => rfl)).imp (fun _ hb => hb.2)).map (fun _ => rfl)
def placeS (tks : List Tk) (n len : Nat) : Nat := match tks[n]? with
  | some t => t.at_
  | none => len
/- What Query answers. -/
def queryO (l : List UInt8) : List Np × Nat × Int := match lexO l with
  | (tks, a, e) => if e = 0 then (if (parseS (tks.map tp)).2.2 = 0 then ((parseS (tks.map tp)).1, 0, 0) else ([], placeS tks (parseS (tks.map tp)).2.1 l.length, (parseS (tks.map tp)).2.2)) else ([], a, e)
end
end Go.Proofs.Ytjekpclbedbaoaa
namespace Go.Proofs.Ytjekpclbedbaoaa
open Go.RowKit Go.Joins

def sufs : List (List UInt8) := [[32, 124, 32, 107, 101, 101, 112, 32, 97], [32, 124, 32, 97, 108, 105, 103, 110, 32, 53], [32, 124, 32, 116, 111, 112, 32, 51, 32, 98, 121, 32, 98], [32, 124, 32, 103, 114, 111, 117, 112, 32, 99, 32, 58, 32, 99, 111, 117, 110, 116], [32, 124, 32, 119, 104, 101, 114, 101, 32, 100, 32, 61, 32, 49], [32, 124, 32, 117, 110, 105, 111, 110, 32, 40, 102, 101, 116, 99, 104, 32, 101, 41]]
theorem joinT_inr {ts us : List Tk} : joinT ts (.inr us) = .inr (ts ++ us) := rfl
/- The tokens of both. -/
theorem lex_suf {l : List UInt8} {tks : List Tk} {a : Nat} {x : List UInt8} {sg : List (Nat × List UInt8 × Int)} {e0 : List Tk} (h : lexO l = (tks, a, 0)) (hx : ∃ r, x = 32 :: r) (he : lexA 0 x = .inr e0) (hs : e0.map sig = sg) {T : List Tk} {b : Nat} {e : Int} (h2 : lexO (l ++ x) = (T, b, e)) (he0 : e = 0) : ∃ us, T = tks ++ us ∧ us.map sig = sg := by
  subst he0
  obtain ⟨r, rfl⟩ := hx
  have h3 := lexA_app (b := 32) (by decide) r l.length l 0 tks (Nat.le_refl _) (lexO_inr h)
  obtain ⟨us, hu1, hu2⟩ := lexA_move (32 :: r).length (32 :: r) 0 (0 + l.length) e0 (Nat.le_refl _) he
  rw [hu1, joinT_inr, lexO_inr h2] at h3
  cases h3
  exact ⟨us, rfl, by rw [hu2, hs]⟩
theorem sig_cons {us : List Tk} {k : Nat} {s : List UInt8} {n : Int} {sg : List (Nat × List UInt8 × Int)} (h : us.map sig = (k, s, n) :: sg) : ∃ a r, us = ⟨k, s, n, a⟩ :: r ∧ r.map sig = sg := by
  cases us with
  | nil => cases h
  | cons t r =>
    simp only [List.map_cons, List.cons.injEq, sig, Prod.mk.injEq] at h
    obtain ⟨⟨rfl, rfl, rfl⟩, h2⟩ := h
    exact ⟨t.at_, r, rfl, h2⟩
theorem sig_nil {us : List Tk} (h : us.map sig = []) : us = [] := List.map_eq_nil_iff.1 h
/- What is asked of the second answer. -/
def CutR (A Bn : List Np) (m : Nat) : Prop := ∃ tail x, Bn = A ++ tail ∧ tail.length = m ∧ tail[m - 1]? = some x ∧ x.l.head? = some ((A.length - 1 : Nat) : Int) ∧ 0 < A.length
theorem whole_is {ts : List Tp} {p : PN} {r : Nat × List Np} {j : Nat} (hp : p 0 [] = .ok r j) (h : (wholeS ts p).2.2 = 0) : (wholeS ts p).1 = r.2 := by
  unfold wholeS at h ⊢
  split at h
  · simp at h
  · rename_i hl
    rw [if_neg hl, hp]
    rw [hp] at h
    simp only at h ⊢
    split at h
    · simp at h
    · rename_i h1
      rw [if_neg h1]
      split at h
      · simp at h
      · rename_i h2; rw [if_neg h2]
theorem cut_of {ts us : List Tp} {A : List Np} {a m j : Nat} {x : Np} {tail : List Np} (hb : Bar us) (hA : parseS ts = (A, a, 0)) (hs : stepB (ts ++ us) (condS (ts ++ us) 16) (some (queryS (ts ++ us) 15)) (A.length - 1) (ts.length + 1) A = .ok (x, A ++ tail) (ts.length + j)) (he : isW us j wBar = false) (hm : tail.length + 1 = m) (hx : x.l.head? = some ((A.length - 1 : Nat) : Int)) (h : (parseS (ts ++ us)).2.2 = 0) : CutR A (parseS (ts ++ us)).1 m := by
  have hne := (parse_tree (ts := ts) (by rw [hA])).1.ne
  rw [hA] at hne
  obtain ⟨F, hF, e⟩ := query_on hb hA
  obtain ⟨b, r, hu, hk1, hk2⟩ := id hb
  have h0 : isW us 0 wBar = true := by rw [hu]; simp [isW, hk1, hk2]
  rw [steps_one h0 hs he (by rw [hu] at hF; simp at hF; omega)] at e
  refine ⟨tail ++ [x], x, ?_, by simp; omega, ?_, hx, hne⟩
  · have := whole_is (ts := ts ++ us) e h
    unfold parseS
    rw [this]; simp
  · rw [← hm]; simp
theorem queryO_ok {l : List UInt8} (h : (queryO l).2.2 = 0) : ∃ tks a, lexO l = (tks, a, 0) ∧ (parseS (tks.map tp)).2.2 = 0 ∧ (queryO l).1 = (parseS (tks.map tp)).1 := by
  unfold queryO at h ⊢
  generalize lexO l = O at *
  obtain ⟨tks, a, e⟩ := O
  simp only at h ⊢
  split at h
  · rename_i he
    subst he
    split at h
    · rename_i h1
      exact ⟨tks, a, rfl, h1, by rw [if_pos rfl, if_pos h1]⟩
    · rename_i h1; exact absurd h h1
  · rename_i he; exact absurd h he
theorem trip {ts : List Tp} (h : (parseS ts).2.2 = 0) : parseS ts = ((parseS ts).1, (parseS ts).2.1, 0) := by rw [← h]
theorem cut_is (l : List UInt8) (k : Nat) (hk : k < 6) (h1 : (queryO l).2.2 = 0) (h2 : (queryO (l ++ sufs.getD k [])).2.2 = 0) : CutR (queryO l).1 (queryO (l ++ sufs.getD k [])).1 (if 3 < k then 2 else 1) := by
  obtain ⟨tks, a, e1, e2, e3⟩ := queryO_ok h1
  obtain ⟨T, b, f1, f2, f3⟩ := queryO_ok h2
  rw [e3, f3]
  match k, hk with
  | 0, _ =>
    obtain ⟨us, rfl, hu0⟩ := lex_suf (x := [32, 124, 32, 107, 101, 101, 112, 32, 97]) e1 ⟨_, rfl⟩ (e0 := [⟨4, [124], 0, 1⟩, ⟨1, [107, 101, 101, 112], 0, 3⟩, ⟨1, [97], 0, 8⟩]) (by decide +kernel) rfl f1 rfl
    obtain ⟨a0, r0, rfl, hu1⟩ := sig_cons hu0
    obtain ⟨a1, r1, rfl, hu2⟩ := sig_cons hu1
    obtain ⟨a2, r2, rfl, hu3⟩ := sig_cons hu2
    obtain rfl := sig_nil hu3
    rw [List.map_append] at f2 ⊢
    exact cut_of (us := us_keep a0 a1 a2) ⟨_, _, rfl, rfl, rfl⟩ (trip e2) (tail := []) (by rw [List.append_nil]; exact step_keep a0 a1 a2 _ _ _ _) rfl rfl rfl f2
  | 1, _ =>
    obtain ⟨us, rfl, hu0⟩ := lex_suf (x := [32, 124, 32, 97, 108, 105, 103, 110, 32, 53]) e1 ⟨_, rfl⟩ (e0 := [⟨4, [124], 0, 1⟩, ⟨1, [97, 108, 105, 103, 110], 0, 3⟩, ⟨2, [], 5, 9⟩]) (by decide +kernel) rfl f1 rfl
    obtain ⟨a0, r0, rfl, hu1⟩ := sig_cons hu0
    obtain ⟨a1, r1, rfl, hu2⟩ := sig_cons hu1
    obtain ⟨a2, r2, rfl, hu3⟩ := sig_cons hu2
    obtain rfl := sig_nil hu3
    rw [List.map_append] at f2 ⊢
    exact cut_of (us := us_align a0 a1 a2) ⟨_, _, rfl, rfl, rfl⟩ (trip e2) (tail := []) (by rw [List.append_nil]; exact step_align a0 a1 a2 _ _ _ _) rfl rfl rfl f2
  | 2, _ =>
    obtain ⟨us, rfl, hu0⟩ := lex_suf (x := [32, 124, 32, 116, 111, 112, 32, 51, 32, 98, 121, 32, 98]) e1 ⟨_, rfl⟩ (e0 := [⟨4, [124], 0, 1⟩, ⟨1, [116, 111, 112], 0, 3⟩, ⟨2, [], 3, 7⟩, ⟨1, [98, 121], 0, 9⟩, ⟨1, [98], 0, 12⟩]) (by decide +kernel) rfl f1 rfl
    obtain ⟨a0, r0, rfl, hu1⟩ := sig_cons hu0
    obtain ⟨a1, r1, rfl, hu2⟩ := sig_cons hu1
    obtain ⟨a2, r2, rfl, hu3⟩ := sig_cons hu2
    obtain ⟨a3, r3, rfl, hu4⟩ := sig_cons hu3
    obtain ⟨a4, r4, rfl, hu5⟩ := sig_cons hu4
    obtain rfl := sig_nil hu5
    rw [List.map_append] at f2 ⊢
    exact cut_of (us := us_top a0 a1 a2 a3 a4) ⟨_, _, rfl, rfl, rfl⟩ (trip e2) (tail := []) (by rw [List.append_nil]; exact step_top a0 a1 a2 a3 a4 _ _ _ _) rfl rfl rfl f2
  | 3, _ =>
    obtain ⟨us, rfl, hu0⟩ := lex_suf (x := [32, 124, 32, 103, 114, 111, 117, 112, 32, 99, 32, 58, 32, 99, 111, 117, 110, 116]) e1 ⟨_, rfl⟩ (e0 := [⟨4, [124], 0, 1⟩, ⟨1, [103, 114, 111, 117, 112], 0, 3⟩, ⟨1, [99], 0, 9⟩, ⟨4, [58], 0, 11⟩, ⟨1, [99, 111, 117, 110, 116], 0, 13⟩]) (by decide +kernel) rfl f1 rfl
    obtain ⟨a0, r0, rfl, hu1⟩ := sig_cons hu0
    obtain ⟨a1, r1, rfl, hu2⟩ := sig_cons hu1
    obtain ⟨a2, r2, rfl, hu3⟩ := sig_cons hu2
    obtain ⟨a3, r3, rfl, hu4⟩ := sig_cons hu3
    obtain ⟨a4, r4, rfl, hu5⟩ := sig_cons hu4
    obtain rfl := sig_nil hu5
    rw [List.map_append] at f2 ⊢
    exact cut_of (us := us_group a0 a1 a2 a3 a4) ⟨_, _, rfl, rfl, rfl⟩ (trip e2) (tail := []) (by rw [List.append_nil]; exact step_group a0 a1 a2 a3 a4 _ _ _ _) rfl rfl rfl f2
  | 4, _ =>
    obtain ⟨us, rfl, hu0⟩ := lex_suf (x := [32, 124, 32, 119, 104, 101, 114, 101, 32, 100, 32, 61, 32, 49]) e1 ⟨_, rfl⟩ (e0 := [⟨4, [124], 0, 1⟩, ⟨1, [119, 104, 101, 114, 101], 0, 3⟩, ⟨1, [100], 0, 9⟩, ⟨4, [61], 0, 11⟩, ⟨2, [], 1, 13⟩]) (by decide +kernel) rfl f1 rfl
    obtain ⟨a0, r0, rfl, hu1⟩ := sig_cons hu0
    obtain ⟨a1, r1, rfl, hu2⟩ := sig_cons hu1
    obtain ⟨a2, r2, rfl, hu3⟩ := sig_cons hu2
    obtain ⟨a3, r3, rfl, hu4⟩ := sig_cons hu3
    obtain ⟨a4, r4, rfl, hu5⟩ := sig_cons hu4
    obtain rfl := sig_nil hu5
    rw [List.map_append] at f2 ⊢
    exact cut_of (us := us_where a0 a1 a2 a3 a4) ⟨_, _, rfl, rfl, rfl⟩ (trip e2) (step_where a0 a1 a2 a3 a4 16 _ _) rfl rfl rfl f2
  | 5, _ =>
    obtain ⟨us, rfl, hu0⟩ := lex_suf (x := [32, 124, 32, 117, 110, 105, 111, 110, 32, 40, 102, 101, 116, 99, 104, 32, 101, 41]) e1 ⟨_, rfl⟩ (e0 := [⟨4, [124], 0, 1⟩, ⟨1, [117, 110, 105, 111, 110], 0, 3⟩, ⟨4, [40], 0, 9⟩, ⟨1, [102, 101, 116, 99, 104], 0, 10⟩, ⟨1, [101], 0, 16⟩, ⟨4, [41], 0, 17⟩]) (by decide +kernel) rfl f1 rfl
    obtain ⟨a0, r0, rfl, hu1⟩ := sig_cons hu0
    obtain ⟨a1, r1, rfl, hu2⟩ := sig_cons hu1
    obtain ⟨a2, r2, rfl, hu3⟩ := sig_cons hu2
    obtain ⟨a3, r3, rfl, hu4⟩ := sig_cons hu3
    obtain ⟨a4, r4, rfl, hu5⟩ := sig_cons hu4
    obtain ⟨a5, r5, rfl, hu6⟩ := sig_cons hu5
    obtain rfl := sig_nil hu6
    rw [List.map_append] at f2 ⊢
    exact cut_of (us := us_union a0 a1 a2 a3 a4 a5) ⟨_, _, rfl, rfl, rfl⟩ (trip e2) (step_union a0 a1 a2 a3 a4 a5 15 _ _) rfl rfl rfl f2
end Go.Proofs.Ytjekpclbedbaoaa
namespace Go.Proofs.Ytjekpclbedbaoaa
open Go.RowKit Go.Joins

/- fetch x | where -/
def preW : List UInt8 := [102, 101, 116, 99, 104, 32, 120, 32, 124, 32, 119, 104, 101, 114, 101]
def preT : List Tk := [⟨1, [102, 101, 116, 99, 104], 0, 0⟩, ⟨1, [120], 0, 6⟩, ⟨4, [124], 0, 8⟩, ⟨1, [119, 104, 101, 114, 101], 0, 10⟩]
theorem pre_lex : lexA 0 preW = .inr preT := by decide +kernel
theorem open_first (r : List UInt8) : firstS (40 :: r) = some (⟨4, [40], 0, 0⟩, 1) := by
  have f1 : isLe 40 = false := by decide
  have f2 : isDg 40 = false := by decide
  unfold firstS
  simp only [f1, f2]
  have e : signS (40 :: r) = signS [40] := by
    unfold signS
    simp [signsL, List.find?, List.isPrefixOf]
  rw [e]
  show signS [40] = _
  decide +kernel
theorem shut_lex (k : Nat) : lexA k [41, 32] = .inr [⟨4, [41], 0, k⟩] := by
  have hf : firstS [41, 32] = some (⟨4, [41], 0, 0⟩, 1) := by decide +kernel
  rw [lexA_some k (by decide) hf]
  rfl
theorem lex_one {l : List UInt8} {T : List Tk} (h : lexA 0 (preW ++ 32 :: l) = .inr T) : ∃ m, lexA 16 l = .inr m ∧ T = preT ++ m := by
  rw [lexA_app (b := 32) (by decide) l preW.length preW 0 preT (Nat.le_refl _) pre_lex, lexA_bl _ _ (by decide)] at h
  have e : 0 + preW.length + 1 = 16 := rfl
  rw [e] at h
  cases hm : lexA 16 l with
  | inl a => rw [hm] at h; cases h
  | inr m => rw [hm] at h; cases h; exact ⟨m, rfl, rfl⟩
theorem lex_two {l : List UInt8} {m : List Tk} (h : lexA 16 l = .inr m) : ∃ n k, lexA 0 (preW ++ 32 :: 40 :: (l ++ [41, 32])) = .inr (preT ++ ⟨4, [40], 0, 16⟩ :: (n ++ [⟨4, [41], 0, k⟩])) ∧ n.map sig = m.map sig := by
  obtain ⟨n, hn, hs⟩ := lexA_move l.length l 16 17 m (Nat.le_refl _) h
  refine ⟨n, 17 + l.length, ?_, hs⟩
  rw [lexA_app (b := 32) (by decide) _ preW.length preW 0 preT (Nat.le_refl _) pre_lex, lexA_bl _ _ (by decide)]
  have e : 0 + preW.length + 1 = 16 := rfl
  rw [e, lexA_some 16 (by decide) (open_first _)]
  have e2 : List.drop 1 (40 :: (l ++ [41, 32])) = l ++ 41 :: [32] := rfl
  rw [e2, lexA_sep (b := 41) (by unfold Sep; decide) [32] l.length l 17 n (Nat.le_refl _) hn, shut_lex]
  rfl
theorem rl_of {m n : List Tk} {k : Nat} (h : n.map sig = m.map sig) : Rl 4 ((preT ++ m).map tp) ((preT ++ (⟨4, [40], 0, 16⟩ : Tk) :: (n ++ [(⟨4, [41], 0, k⟩ : Tk)])).map tp) := by
  have hl : n.length = m.length := by have := congrArg List.length h; simpa using this
  have hp : preT.length = 4 := rfl
  refine ⟨by simp [hl, hp]; omega, fun i h1 h2 => ?_, ?_⟩
  · simp only [List.length_map, List.length_append, hp] at h2
    obtain ⟨j, rfl⟩ : ∃ j, i = 4 + j := ⟨i - 4, by omega⟩
    have hj : j < m.length := by omega
    have hj2 : j < n.length := by omega
    have e := congrArg (fun x => x[j]?) h
    simp only [List.getElem?_map, List.getElem?_eq_getElem hj, List.getElem?_eq_getElem hj2, Option.map_some, Option.some.injEq, sig, Prod.mk.injEq] at e
    refine ⟨tp m[j], tp n[j], ?_, ?_, ?_, ?_, ?_⟩
    · rw [List.getElem?_map, List.getElem?_append_right (by omega), hp, show 4 + j - 4 = j by omega, List.getElem?_eq_getElem hj]; rfl
    · rw [List.getElem?_map, List.getElem?_append_right (by omega), hp, show 4 + j + 1 - 4 = j + 1 by omega, List.getElem?_cons_succ, List.getElem?_append_left hj2, List.getElem?_eq_getElem hj2]; rfl
    · simp [tp, e.1]
    · simp [tp, e.2.1]
    · simp [tp, e.2.2]
  · refine ⟨tp ⟨4, [41], 0, k⟩, ?_, rfl, rfl⟩
    rw [List.getElem?_map, List.getElem?_append_right (by simp; omega)]
    simp [hp]
    rw [show 4 + m.length - 3 = m.length + 1 by omega, List.getElem?_cons_succ, List.getElem?_append_right (by omega)]
    simp [hl]
theorem br_is (l : List UInt8) (h1 : (queryO (preW ++ 32 :: l)).2.2 = 0) (h2 : (queryO (preW ++ 32 :: 40 :: (l ++ [41, 32]))).2.2 = 0) : (queryO (preW ++ 32 :: l)).1 = (queryO (preW ++ 32 :: 40 :: (l ++ [41, 32]))).1 := by
  obtain ⟨t1, a, e1, e2, e3⟩ := queryO_ok h1
  obtain ⟨t2, b, f1, f2, f3⟩ := queryO_ok h2
  rw [e3, f3]
  obtain ⟨m, g1, rfl⟩ := lex_one (lexO_inr e1)
  obtain ⟨n, k, g2, hs⟩ := lex_two g1
  have g3 := lexO_inr f1
  rw [g2] at g3
  cases g3
  exact br_same (M := m.map tp) (N := (n ++ [(⟨4, [41], 0, k⟩ : Tk)]).map tp) (a0 := 0) (a1 := 6) (a2 := 8) (a3 := 10) (b0 := 0) (b1 := 6) (b2 := 8) (b3 := 10) (b4 := 16) (by rw [List.map_append]; rfl) (by rw [List.map_append]; rfl) (rl_of hs)
    (fun i c h => query_bd _ 16 0 [] i c h) (fun i c h => query_bd _ 16 0 [] i c h) e2 f2
end Go.Proofs.Ytjekpclbedbaoaa
