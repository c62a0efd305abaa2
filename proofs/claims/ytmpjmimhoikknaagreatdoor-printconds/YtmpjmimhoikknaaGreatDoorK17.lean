/-
  A node in its box, while the reference's reader reads on.
  Print's isTree.
  Print's isTree, walked.
  Print's writer says words.
  Print's writer says names, with commas between.
  Two values, two aggregates that are the same.
-/
import Derived.Test.YtmpjmimhoikknaaGreatDoorK12
import Derived.Test.YtmpjmimhoikknaaGreatDoorK16
import Derived.Deep.MidRow
import Derived.Deep.QuietTactic
import Derived.BigQuiet
import Derived.Deep.RegionHeld3
namespace Go.Proofs.YtmpjmimhoikknaaGreatDoor
open Go.RowKit Go.Joins

def setL : Array Value → Nat → List Value → Array Value
  | xs, _, [] => xs
  | xs, o, v :: r => setL (xs.setIfInBounds o v) (o + 1) r
theorem setCells_blk {b : Nat} {t : TypeId} {fz : Nat × Nat} : ∀ (vs : List Value) (o : Nat) (w : World) (xs : Array Value), w.heap[b]? = some (.cells xs t fz) → (w.setCells b o vs).heap[b]? = some (.cells (setL xs o vs) t fz)
  | [], _, _, _, h => h
  | v :: r, o, w, xs, h => by rw [World.setCells]; exact setCells_blk r (o + 1) _ _ (block_set h o v)
theorem setCells_kp {b : Nat} : ∀ (vs : List Value) (o : Nat) (w : World), Kp (fun k => k = b) w (w.setCells b o vs)
  | [], _, w => Kp.refl _ _
  | v :: r, o, w => by rw [World.setCells]; exact (Kp.set (T := fun k => k = b) rfl v).trans (setCells_kp r (o + 1) _)
theorem load_node {ops : Array Oper} {rest : List Oper} {op : Oper} {a : Act} {w : World} {Q : Exit → Act → World → Prop} (hgd : op.guard = none) (x : Operand) (ho : op.op = .load 44 x) {nb : Nat} {q : Nd} (hx : a.eval x = dp nb) (hS : S6 nb q.cells.toArray w)
    (h : wpList Tryz.prog ops Q rest (a.put op.dst (.agg q.cells.toArray)) w) : wpList Tryz.prog ops Q (op :: rest) a w :=
  wpList_load_mid hgd 44 x ho nb 0 hx q.cells _ (s6_range hS) Tryz.underlying44 rfl size_node h
theorem s6_there {nb : Nat} {q : Nd} {w : World} (hS : S6 nb q.cells.toArray w) : w.there nb 5 11 := fun j hj => by
  refine ⟨?_, block_frozen hS _⟩
  rw [block_cell hS, Array.getElem?_eq_getElem (by show 5 + j < 19; omega)]
  rfl
theorem set_nv (q : Nd) (c : Int × Int × List UInt8) : setL q.cells.toArray 5 (VlV c).toList = ({ q with np := { q.np with vk := c.1, vn := c.2.1, vs := c.2.2 } } : Nd).cells.toArray := by
  kernel_rfl
theorem store_nv {ops : Array Oper} {rest : List Oper} {op : Oper} {a : Act} {w : World} {Q : Exit → Act → World → Prop} (hgd : op.guard = none) (x y : Operand) (ho : op.op = .store 39 x y) {nb : Nat} {q : Nd} {c : Int × Int × List UInt8} (hx : a.eval x = .pointer (some ⟨nb, 5, none⟩)) (hy : a.eval y = .agg (VlV c)) (hS : S6 nb q.cells.toArray w)
    (h : ∀ w', S6 nb ({ q with np := { q.np with vk := c.1, vn := c.2.1, vs := c.2.2 } } : Nd).cells.toArray w' → Kp (fun k => k = nb) w w' → wpList Tryz.prog ops Q rest (a.put op.dst undef) w') : wpList Tryz.prog ops Q (op :: rest) a w :=
  wpList_store_mid hgd 39 x y ho nb 5 (VlV c) hx hy (s6_there hS) size_val (one_val c) (h _ (by have := setCells_blk (VlV c).toList 5 w _ hS; rw [set_nv] at this; exact this) (setCells_kp _ _ _))
section
variable {B : Nat} {ts : List Tp} {w w' wr : World} {rb : Nat} {tv sv0 sv sv' : Value} {E E' : Int} {o o' i j j' : Nat} {qs qs' : List Nd} {nb : Nat} {q q' : Nd}
structure Bn (B : Nat) (ts : List Tp) (w : World) (rb : Nat) (tv sv0 sv : Value) (E : Int) (o j : Nat) (qs : List Nd) (nb : Nat) (q : Nd) (wr : World) : Prop where
  r : Ry B ts wr rb tv sv E o j qs
  b : S6 nb q.cells.toArray wr
  k : Kp (Tq rb sv0) w wr
  a : At w sv0 sv
  n : w.heap.size ≤ nb
  l : rb < w.heap.size
  s : ∀ g, sv.ownBlock = some g → g ≠ nb
theorem Bn.ne (h : Bn B ts w rb tv sv0 sv E o j qs nb q wr) : nb ≠ rb := by have := h.n; have := h.l; omega
theorem Bn.y1 (h : Bn B ts w rb tv sv0 sv E o j qs nb q wr) (hk : Kp (fun k => k = rb) wr w') (hr : Ry B ts w' rb tv sv E' o' j' qs) : Bn B ts w rb tv sv0 sv E' o' j' qs nb q w' :=
  ⟨hr, hk.blk h.b h.ne, h.k.next h.a hk.r, h.a, h.n, h.l, h.s⟩
theorem Bn.y2 (h : Bn B ts w rb tv sv0 sv E o j qs nb q wr) (hk : Kp (Tq rb sv) wr w') (ha : At wr sv sv') (hr : Ry B ts w' rb tv sv' E' o' j' qs') : Bn B ts w rb tv sv0 sv' E' o' j' qs' nb q w' :=
  ⟨hr, hk.blk h.b (fun e => e.elim (fun e => h.ne e) (fun e => h.s _ e rfl)), h.k.next h.a hk, h.a.trans ha h.k.size, h.n, h.l, fun g hg e => by
    rcases ha g hg with h1 | h1
    · exact h.s g h1 e
    · have := lt_of_block h.b; omega⟩
theorem Bn.tk (h : Bn B ts w rb tv sv0 sv E o j qs nb q wr) : TK wr (fun k => k = nb) := by
  rintro k rfl c t fz hc
  have hb : wr.heap[k]? = some (.cells q.cells.toArray 44 (0, 0)) := h.b
  rw [hb] at hc; cases hc; decide
theorem Bn.set (h : Bn B ts w rb tv sv0 sv E o j qs nb q wr) (hS : S6 nb q'.cells.toArray w') (hk : Kp (fun k => k = nb) wr w') : Bn B ts w rb tv sv0 sv E o j qs nb q' w' :=
  ⟨h.r.kp hk (fun k e e2 => e.elim (fun e => h.ne (e2.symm.trans e)) (fun e => h.s _ e e2)) h.tk (fun k e => by have := h.r.bB; have := h.n; have := h.l; omega), hS, h.k.trans' hk (fun i hi e => by have := h.n; omega), h.a, h.n, h.l, h.s⟩
theorem Bn.set1 (h : Bn B ts w rb tv sv0 sv E o j qs nb q wr) (c : Nat) (v : Value) (hq : q.cells.toArray.setIfInBounds c v = q'.cells.toArray) : Bn B ts w rb tv sv0 sv E o j qs nb q' (wr.setCell ⟨nb, c, none⟩ v) :=
  h.set (by have := block_set h.b c v; rw [hq] at this; exact this) (Kp.set (T := fun k => k = nb) rfl v)
theorem Bn.on (h : Bn B ts w rb tv sv0 sv E o j qs nb q wr) (hb : Below wr.heap.size wr w') : Bn B ts w rb tv sv0 sv E o j qs nb q w' :=
  h.y1 (Kp.of hb) (h.r.on hb)
theorem Bn.start (h : Ry B ts wr rb tv sv E o j qs) (hk : Kp (Tq rb sv0) w wr) (ha : At w sv0 sv) (hl : rb < w.heap.size) (q : Nd) : Bn B ts w rb tv sv0 sv E o j qs wr.heap.size q (wr.alloc (.cells q.cells.toArray 44)) :=
  ⟨h.on ((Below.refl _ _).alloc (Nat.le_refl _) _), alloc_block _ _, hk.trans (Kp.alloc _ _ _), ha, hk.size, hl, fun g hg e => by have h1 : g < wr.heap.size := (h.own.at hg).2; omega⟩
theorem Bn.start2 (h : Ry B ts wr rb tv sv E o j qs) (hk : Kp (Tq rb sv0) w wr) (ha : At w sv0 sv) (hl : rb < w.heap.size) (hS : S6 wr.heap.size q.cells.toArray w') (hk' : Kp (fun k => k = wr.heap.size) (wr.alloc (.cells zNd 44)) w') : Bn B ts w rb tv sv0 sv E o j qs wr.heap.size q w' :=
  (Bn.start h hk ha hl (bare n0)).set hS hk'
end
end Go.Proofs.YtmpjmimhoikknaaGreatDoor
namespace Go.Proofs.YtmpjmimhoikknaaGreatDoor
open Go.RowKit Go.Joins

/- A node as it may be handed in: its value's numbers, its rows wherever they lie. -/
structure Nx where
  np : Np
  h0 : Int
  h1 : Int
  h2 : Int
  h3 : Int
  h4 : Int
  h5 : Int
  h6 : Int
  h7 : Int
  lv : Value
  nv : Value
  gv : Value
def Nx.cells (q : Nx) : List Value := [.int .i64 q.np.kind, .string (St q.np.s), .int .i64 q.np.n, .int .i64 q.np.from_, .int .i64 q.np.to_, .int .i64 q.np.vk, .int .i64 q.np.vn, .string (St q.np.vs), .int .i64 q.h0, .int .i64 q.h1, .int .i64 q.h2, .int .i64 q.h3, .int .i64 q.h4, .int .i64 q.h5, .int .i64 q.h6, .int .i64 q.h7, q.lv, q.nv, q.gv]
structure NxAt (Q : Nat → Prop) (w : World) (q : Nx) : Prop where
  l : SlAt Q int1 1 w q.lv q.np.l
  n : SlAt Q str1 1 w q.nv q.np.names
  g : SlAt Q ag2 2 w q.gv q.np.aggs
structure Qx (Q : Nat → Prop) (w : World) (v : Value) (qs : List Nx) : Prop where
  sl : SlAt Q Nx.cells 19 w v qs
  each : ∀ q ∈ qs, NxAt Q w q
theorem NxAt.kp {Q T : Nat → Prop} {w w' : World} {q : Nx} (h : NxAt Q w q) (hk : Kp T w w') (ht : ∀ b, Q b → ¬ T b) : NxAt Q w' q := ⟨h.l.kp hk ht, h.n.kp hk ht, h.g.kp hk ht⟩
theorem Qx.kp {Q T : Nat → Prop} {w w' : World} {v : Value} {qs : List Nx} (h : Qx Q w v qs) (hk : Kp T w w') (ht : ∀ b, Q b → ¬ T b) : Qx Q w' v qs := ⟨h.sl.kp hk ht, fun q hq => (h.each q hq).kp hk ht⟩
theorem SlAt.one {α : Type} {Q : Nat → Prop} {enc : α → List Value} {k : Nat} {w : World} {v : Value} {xs : List α} (h : SlAt Q enc k w v xs) : v.oneCell' = true := by obtain ⟨p, c, rfl, -⟩ := h; rfl
theorem nx_one {Q : Nat → Prop} {w : World} {q : Nx} (h : NxAt Q w q) : ∀ c ∈ q.cells, c.oneCell' = true := by
  intro v hv
  have h1 := h.l.one
  have h2 := h.n.one
  have h3 := h.g.one
  simp [Nx.cells] at hv
  rcases hv with rfl | rfl | rfl | rfl | rfl | rfl | rfl | rfl | rfl | rfl | rfl | rfl | rfl | rfl | rfl | rfl | rfl | rfl | rfl <;> first | rfl | assumption
/- As mathematics. -/
def nmL (i : Nat) (seen : List Int) : List Int → Option (List Int)
  | [] => some seen
  | k :: r => if k < 0 ∨ (i : Int) ≤ k ∨ k ∈ seen then none else nmL i (k :: seen) r
def treeL : List Np → Nat → List Int → Bool
  | [], _, _ => true
  | n :: r, i, seen => if (n.l.length : Int) = belowN n.kind then (match nmL i seen n.l with | none => false | some s => treeL r (i + 1) s) else false
def isTreeB (ns : List Np) : Bool := if ns.length = 0 ∨ 128 < ns.length then false else treeL ns 0 []
def blA (seen : List Int) : Array Value := ((List.range 128).map fun (j : Nat) => Value.bool (decide ((j : Int) ∈ seen))).toArray
theorem blA_at (seen : List Int) (k : Nat) (hk : k < 128) : (blA seen)[k]? = some (.bool (decide ((k : Int) ∈ seen))) := by
  unfold blA; simp [hk]
theorem blA_set (seen : List Int) (k : Nat) : (blA seen).setIfInBounds k (.bool true) = blA ((k : Int) :: seen) := by
  apply Array.ext'
  apply List.ext_getElem?
  intro j
  unfold blA
  simp only [List.setIfInBounds_toArray, List.getElem?_set, List.getElem?_map, List.length_map, List.length_range]
  by_cases hj : j < 128
  · by_cases e : k = j
    · subst e; simp [hj]
    · have : ¬ (j : Int) = k := by omega
      simp [e, hj, this]
  · by_cases e : k = j
    · subst e; simp [hj]
    · simp [e, hj]
theorem blA_nil : blA [] = Array.replicate 128 (.bool false) := by kernel_rfl
end Go.Proofs.YtmpjmimhoikknaaGreatDoor
namespace Go.Proofs.YtmpjmimhoikknaaGreatDoor
open Go.RowKit Go.Joins

theorem blA_zero : blA [] = Tryz.zeroCells115 := by kernel_rfl
theorem size_nodeX : (Tryz.prog.info? 44).map (·.size) = some 19 := size_node
theorem load_nx {ops : Array Oper} {rest : List Oper} {op : Oper} {a : Act} {w : World} {Q : Exit → Act → World → Prop} (hgd : op.guard = none) (x : Operand) (ho : op.op = .load 44 x) {g o : Nat} {q : Nx} (hx : a.eval x = .pointer (some ⟨g, o, none⟩)) (hc : CellsAt w g o q.cells)
    (h : wpList Tryz.prog ops Q rest (a.put op.dst (.agg q.cells.toArray)) w) : wpList Tryz.prog ops Q (op :: rest) a w :=
  wpList_load_mid hgd 44 x ho g o hx q.cells _ hc Tryz.underlying44 rfl size_node h
theorem store_nx {ops : Array Oper} {rest : List Oper} {op : Oper} {a : Act} {w : World} {Q : Exit → Act → World → Prop} (hgd : op.guard = none) (x y : Operand) (ho : op.op = .store 44 x y) {g : Nat} {q : Nx} (hx : a.eval x = dp g) (hy : a.eval y = .agg q.cells.toArray) (h1 : ∀ c ∈ q.cells, c.oneCell' = true) {old : Array Value} (hg : w.heap[g]? = some (.cells old 44 (0, 0))) (hs : old.size = 19)
    (h : ∀ w', w'.heap[g]? = some (.cells q.cells.toArray 44 (0, 0)) → Kp (fun k => k = g) w w' → wpList Tryz.prog ops Q rest (a.put op.dst undef) w') : wpList Tryz.prog ops Q (op :: rest) a w :=
  wpList_store_row hgd 44 x y ho hx hy hg size_node (by rw [hs]; rfl) (all_oneCell_toArray h1) (fun w' h1 h2 _ => h w' h1 h2)
theorem tree_drop {ns : List Np} {i : Nat} {seen : List Int} {n : Np} (h : ns[i]? = some n) : treeL (ns.drop i) i seen = if (n.l.length : Int) = belowN n.kind then (match nmL i seen n.l with | none => false | some s => treeL (ns.drop (i + 1)) (i + 1) s) else false := by
  have hi := (List.getElem?_eq_some_iff.1 h).1
  have e : ns.drop i = n :: ns.drop (i + 1) := by
    rw [List.drop_eq_getElem_cons hi]
    congr 1
    exact (List.getElem?_eq_some_iff.1 h).2
  rw [e]; rfl
theorem nm_drop {l : List Int} {i j : Nat} {seen : List Int} {k : Int} (h : l[j]? = some k) : nmL i seen (l.drop j) = if k < 0 ∨ (i : Int) ≤ k ∨ k ∈ seen then none else nmL i (k :: seen) (l.drop (j + 1)) := by
  have hi := (List.getElem?_eq_some_iff.1 h).1
  have e : l.drop j = k :: l.drop (j + 1) := by
    rw [List.drop_eq_getElem_cons hi]
    congr 1
    exact (List.getElem?_eq_some_iff.1 h).2
  rw [e]; rfl
theorem SlAt.bel {α : Type} {enc : α → List Value} {k B : Nat} {w w' : World} {v : Value} {xs : List α} (h : SlAt (fun b => b < B) enc k w v xs) (hb : Below B w w') : SlAt (fun b => b < B) enc k w' v xs := by
  obtain ⟨p, cap, hv, hc, hx⟩ := h
  refine ⟨p, cap, hv, hc, fun hne => ?_⟩
  obtain ⟨b, o, hp, hQ, hj⟩ := hx hne
  exact ⟨b, o, hp, hQ, fun j x hjx i u hu => (hb.cell (p := ⟨b, o + j * k + i, none⟩) hQ).trans (hj j x hjx i u hu)⟩
set_option maxRecDepth 100000 in
set_option maxHeartbeats 4000000 in
theorem isTree_any {w : World} {v : Value} {qs : List Nx} (h : Qx (fun b => b < w.heap.size) w v qs) : Calls Tryz.prog 40 #[v] w fun e w' => e = .returned (.bool (isTreeB (qs.map (·.np)))) ∧ Below w.heap.size w w' := by
  obtain ⟨p, cap, rfl, hc1, hc2⟩ := h.sl.form
  unfold maxLen at hc2
  have HQ := hid h
  clear h
  by_cases h0 : qs.length = 0
  · have HE : Hid (isTreeB (qs.map (·.np)) = false) := by show _ = _; unfold isTreeB; rw [if_pos (by simp [h0])]
    have e0 : (qs.length : Int) = 0 := by omega
    generalize qs.length = ln at *
    subst h0
    go_enter Tryz.func40, Tryz.ntmps40
    go_wp2_with fail
    go_ret
    exact ⟨by rw [HE.out]; rfl, Below.refl _ _⟩
  · by_cases h128 : 128 < qs.length
    · have HE : Hid (isTreeB (qs.map (·.np)) = false) := by show _ = _; unfold isTreeB; rw [if_pos (by rw [List.length_map]; omega)]
      have e0 : ((qs.length : Int) == 0) = false := by rw [beq_eq_false_iff_ne]; omega
      have e1 : 128 < (qs.length : Int) := by omega
      go_enter Tryz.func40, Tryz.ntmps40
      go_wp2_with fail
      go_ret
      exact ⟨by rw [HE.out]; rfl, Below.refl _ _⟩
    · have HE : Hid (isTreeB (qs.map (·.np)) = treeL ((qs.map (·.np)).drop 0) 0 []) := by show _ = _; unfold isTreeB; rw [if_neg (by rw [List.length_map]; omega), List.drop_zero]
      have e0 : ((qs.length : Int) == 0) = false := by rw [beq_eq_false_iff_ne]; omega
      have e1 : ¬ 128 < (qs.length : Int) := by omega
      clear h0 h128
      go_enter Tryz.func40, Tryz.ntmps40
      go_upto_region 5 with fail
      rw [← blA_zero]
      have HZ0 : Hid ((w.alloc (.cells (blA []) 115)).heap[w.heap.size]? = some (.cells (blA []) 115 (0, 0))) := alloc_block _ _
      have HK0 : Hid (Below w.heap.size w (w.alloc (.cells (blA []) 115))) := (Below.refl _ _).alloc (Nat.le_refl _) _
      generalize w.alloc (.cells (blA []) 115) = w1 at *
      go_loopw [18] (fun u wr => ∃ (i : Nat) (seen : List Int), u = .int .i64 i ∧ (i : Int) ≤ qs.length ∧ Hid (isTreeB (qs.map (·.np)) = treeL ((qs.map (·.np)).drop i) i seen) ∧ Hid (wr.heap[w.heap.size]? = some (.cells (blA seen) 115 (0, 0))) ∧ Hid (Below w.heap.size w wr)) (fun u _ => qs.length - (intOf u).toNat)
      case atStart => exact ⟨0, [], rfl, by omega, HE.out, HZ0.out, HK0.out⟩
      case round =>
        obtain ⟨i, seen, rfl, hin, HEr, HZr, HKr⟩ := hrel
        clear HE HZ0 HK0
        by_cases hlt : i < qs.length
        · obtain ⟨q, hq⟩ : ∃ q, qs[i]? = some q := ⟨_, List.getElem?_eq_getElem hlt⟩
          have HQr := hid (HQ.out.kp (T := fun k => w.heap.size ≤ k) ⟨HKr.out.os, HKr.out.tape, HKr.out.output, HKr.out.size, fun k hk _ => HKr.out.block k hk⟩ (fun b hb ht => by omega))
          obtain ⟨g, og, rfl, hg, hcl⟩ := HQr.out.sl.at (j := i) hq
          have HCl := hid hcl
          have HNx := hid (HQr.out.each q (List.mem_of_getElem? hq))
          have HLs0 := hid (HQ.out.each q (List.mem_of_getElem? hq)).l
          have HTr := hid (tree_drop (ns := qs.map (·.np)) (i := i) (seen := seen) (n := q.np) (by rw [List.getElem?_map, hq]; rfl))
          have i0 : (0 : Int) ≤ i := by omega
          have i1 : (i : Int) < qs.length := by omega
          have HI := hid hlt
          clear hcl hq hlt hg
          go_upto_region 7 with (first
            | (refine load_nx (q := q) rfl _ rfl rfl HCl.out ?_)
            | (refine store_nx (q := q) rfl _ _ rfl rfl rfl (nx_one HNx.out) (alloc_block wr _) rfl ?_; intro w4 h4 k4; have H4 := hid h4; have K4 := hid k4; clear h4 k4))
          have HK4 := hid ((HKr.out.alloc HKr.out.size (.cells zNd 44)).trans (K4.out.below (by have := HKr.out.size; simp; omega) (fun k e => by have := HKr.out.size; omega)))
          have HZ4 := hid (K4.out.blk ((Kp.alloc (fun _ => False) wr (.cells zNd 44)).blk HZr.out id) (fun e => by have := lt_of_block HZr.out; omega))
          obtain ⟨pl, cl, hlv, hl1, hl2⟩ := HNx.out.l.form
          have c0 : w4.cell? ⟨wr.heap.size, 0, none⟩ = some (.int .i64 q.np.kind) := block_cell H4.out 0
          have c16 : w4.cell? ⟨wr.heap.size, 16, none⟩ = some (.slice pl q.np.l.length cl) := (block_cell H4.out 16).trans (congrArg some hlv)
          have HLs := HLs0
          rw [hlv] at HLs
          clear HLs0
          unfold maxLen at hl2
          generalize hL : q.np.l = L at *
          have HB := hid (below_any q.np.kind)
          clear hlv HZr K4 H4 HCl HNx
          generalize hkd : q.np.kind = kd at *
          generalize wr.heap.size = nb at *
          by_cases hb : (L.length : Int) = belowN kd
          · have bn : ((L.length : Int) != belowN kd) = false := by simp [hb]
            have HTr2 : Hid (treeL ((qs.map (·.np)).drop i) i seen = (match nmL i seen (L.drop 0) with | none => false | some s => treeL ((qs.map (·.np)).drop (i + 1)) (i + 1) s)) := by show _ = _; rw [HTr.out, if_pos hb, List.drop_zero]
            clear hb HTr
            go_quiet (first | (go_at_call 66; exact Calls.quiet_of_same (HB.out _)))
            have HZ5 := hid (block_on HZ4.out (below_drewN (Below.refl w4.heap.size w4) nq))
            have HK5 := hid (HK4.out.trans ((below_drewN (Below.refl w4.heap.size w4) nq).mono HK4.out.size))
            clear HZ4 HK4
            go_upto_region 10 with fail
            clear c0 c16 bn
            generalize w4.drewN nq = W5 at *
            go_loopw [33] (fun u wr => ∃ (j : Nat) (sn : List Int), u = .int .i64 j ∧ (j : Int) ≤ L.length ∧ Hid (treeL ((qs.map (·.np)).drop i) i seen = (match nmL i sn (L.drop j) with | none => false | some s => treeL ((qs.map (·.np)).drop (i + 1)) (i + 1) s)) ∧ Hid (wr.heap[w.heap.size]? = some (.cells (blA sn) 115 (0, 0))) ∧ Hid (Below w.heap.size w wr)) (fun u _ => L.length - (intOf u).toNat)
            case atStart => exact ⟨0, seen, rfl, by omega, HTr2.out, HZ5.out, HK5.out⟩
            case round =>
              obtain ⟨j, sn, rfl, hjl, HTj, HZj, HKj⟩ := hrel
              clear HTr2 HZ5 HK5
              by_cases hj : j < L.length
              · obtain ⟨k, hk⟩ : ∃ k, L[j]? = some k := ⟨_, List.getElem?_eq_getElem hj⟩
                obtain ⟨gl, ol, hpe, -, hcl⟩ := (HLs.out.bel HKj.out).at (j := j) hk
                subst hpe
                have ck : wr.cell? ⟨gl, ol + j, none⟩ = some (.int .i64 k) := by have := hcl 0 _ rfl; rw [Nat.mul_one, Nat.add_zero] at this; exact this
                have HNm := hid (nm_drop (i := i) (seen := sn) hk)
                have j0 : (0 : Int) ≤ j := by omega
                have j1 : (j : Int) < L.length := by omega
                have HJ := hid hj
                clear hcl hk hj
                by_cases hbad : k < 0 ∨ (i : Int) ≤ k ∨ k ∈ sn
                · have HF : Hid (isTreeB (qs.map (·.np)) = false) := by show _ = _; rw [HEr.out, HTj.out, HNm.out, if_pos hbad]
                  clear HNm
                  by_cases h1 : k < 0
                  · clear hbad
                    go_wp2_with fail
                    go_ret
                    exact ⟨by rw [HF.out]; rfl, HKj.out⟩
                  · by_cases h2 : (i : Int) ≤ k
                    · clear hbad
                      go_wp2_with fail
                      go_ret
                      exact ⟨by rw [HF.out]; rfl, HKj.out⟩
                    · have hin : k ∈ sn := hbad.resolve_left h1 |>.resolve_left h2
                      obtain ⟨n, rfl⟩ : ∃ n : Nat, k = n := ⟨k.toNat, by omega⟩
                      have cn : wr.cell? ⟨w.heap.size, n, none⟩ = some (.bool true) := by rw [block_cell HZj.out, blA_at sn n (by omega), decide_eq_true hin]
                      have n0 : (0 : Int) ≤ n := by omega
                      have n1 : (n : Int) < 128 := by omega
                      clear hbad hin
                      go_wp2_with fail
                      go_ret
                      exact ⟨by rw [HF.out]; rfl, HKj.out⟩
                · have h1 : ¬ k < 0 := fun h => hbad (.inl h)
                  have h2 : ¬ (i : Int) ≤ k := fun h => hbad (.inr (.inl h))
                  have hin : ¬ k ∈ sn := fun h => hbad (.inr (.inr h))
                  have HT6 : Hid (treeL ((qs.map (·.np)).drop i) i seen = (match nmL i (k :: sn) (L.drop (j + 1)) with | none => false | some s => treeL ((qs.map (·.np)).drop (i + 1)) (i + 1) s)) := by show _ = _; rw [HTj.out, HNm.out, if_neg hbad]
                  obtain ⟨n, rfl⟩ : ∃ n : Nat, k = n := ⟨k.toNat, by omega⟩
                  have cn : wr.cell? ⟨w.heap.size, n, none⟩ = some (.bool false) := by rw [block_cell HZj.out, blA_at sn n (by omega), decide_eq_false hin]
                  have fn := block_frozen HZj.out n
                  have n0 : (0 : Int) ≤ n := by omega
                  have n1 : (n : Int) < 128 := by omega
                  clear hbad hin HNm HTj
                  go_wp2_with fail
                  go_roundw
                  case rel => exact ⟨j + 1, (n : Int) :: sn, by simp, by omega, HT6.out, by have := block_set HZj.out n (.bool true); rw [blA_set] at this; exact this, HKj.out.trans ((Kp.set (T := fun x => x = w.heap.size) rfl _).below HKj.out.size (fun x e => by omega))⟩
                  case measure => simp [intOf]; have := HJ.out; omega
              · have j1 : ¬ (j : Int) < L.length := by omega
                have HT7 : Hid (isTreeB (qs.map (·.np)) = treeL ((qs.map (·.np)).drop (i + 1)) (i + 1) sn) := by show _ = _; rw [HEr.out, HTj.out, List.drop_of_length_le (by omega)]; rfl
                clear hj HTj
                go_wp2_with fail
                go_roundw
                case rel => exact ⟨i + 1, sn, by simp, by omega, HT7.out, HZj.out, HKj.out⟩
                case measure => simp [intOf]; have := HI.out; omega
          · have bn : ((L.length : Int) != belowN kd) = true := by simp [hb]
            have HF : Hid (isTreeB (qs.map (·.np)) = false) := by show _ = _; rw [HEr.out, HTr.out, if_neg hb]
            clear hb HTr
            go_quiet (first | (go_at_call 66; exact Calls.quiet_of_same (HB.out _)))
            have HK5 := hid (HK4.out.trans ((below_drewN (Below.refl w4.heap.size w4) nq).mono HK4.out.size))
            go_wp2_with fail
            go_ret
            exact ⟨by rw [HF.out]; rfl, HK5.out⟩
        · have i1 : ¬ (i : Int) < qs.length := by omega
          have HF : Hid (isTreeB (qs.map (·.np)) = true) := by
            show _ = _
            rw [HEr.out, List.drop_of_length_le (by rw [List.length_map]; omega)]; rfl
          go_wp2_with fail
          go_ret
          exact ⟨by rw [HF.out]; rfl, HKr.out⟩
end Go.Proofs.YtmpjmimhoikknaaGreatDoor
namespace Go.Proofs.YtmpjmimhoikknaaGreatDoor
open Go.RowKit Go.Joins

theorem app_A {ops : Array Oper} {rest : List Oper} {o : Oper} {a : Act} {Q : Exit → Act → World → Prop} {w : World} {α : Type} {enc : α → List Value} {k e t B N : Nat} {Qb : Nat → Prop} {xs ys : List α} {v u : Value}
    (hE : ElemN t e k N) (hk : ∀ x, (enc x).length = k) (h1 : ∀ y ∈ ys, ∀ c ∈ enc y, c.oneCell' = true) (hgd : o.guard = none) (s x : Operand) (ho : o.op = .call { callee := .builtin .append, args := #[s, x], argTypes := #[t, t] })
    (hs : a.eval s = v) (hown : Own enc k e B w v xs) (hx : a.eval x = u) (hu : SlAt Qb enc k w u ys) (hne : ys ≠ []) (hb : (xs.length + ys.length) * N ≤ 140737488355328) (hN : 1 ≤ N) (hB : B ≤ w.heap.size)
    (h : ∀ v' w', Own enc k e B w' v' (xs ++ ys) → w.grownBy w' v.ownBlock → At w v v' → wpList Tryz.prog ops Q rest (a.put o.dst v') w') : wpList Tryz.prog ops Q (o :: rest) a w := by
  refine wpList_plain hgd fun K hK => ?_
  have := step_appP (ops := ops) (E := False) (K := K) (Q := Q) hE hk h1 hgd s x ho hs hx hown hu hne hb hN hB (fun v' w' a b c => hK _ _ (h v' w' a b c))
  rw [if_pos (by simp [Region.wanted, hgd])] at this
  exact this
/- The writer: its nodes' value, its words. -/
structure Wr (B : Nat) (w : World) (wb : Nat) (nv wv : Value) (ws : List (List UInt8)) : Prop where
  bB : B ≤ wb
  blk : w.heap[wb]? = some (.cells #[nv, wv] 107 (0, 0))
  own : Own str1 1 9 B w wv ws
section
variable {B : Nat} {w w' : World} {wb : Nat} {nv wv : Value} {ws us : List (List UInt8)}
theorem Wr.lt (h : Wr B w wb nv wv ws) : wb < w.heap.size := lt_of_block h.blk
theorem Wr.ne (h : Wr B w wb nv wv ws) : ∀ g, wv.ownBlock = some g → g ≠ wb := fun g hg e => by
  obtain ⟨c, fz, hc⟩ := h.own.kind hg; rw [e, h.blk] at hc; cases hc
theorem Wr.kp {T : Nat → Prop} (h : Wr B w wb nv wv ws) (hk : Kp T w w') (ht : ∀ k, Tq wb wv k → ¬ T k) : Wr B w' wb nv wv ws :=
  ⟨h.bB, hk.blk h.blk (ht wb (.inl rfl)), h.own.kp hk (fun g hg => ht g (.inr hg))⟩
theorem Wr.on (h : Wr B w wb nv wv ws) (hb : Below w.heap.size w w') : Wr B w' wb nv wv ws := h.kp (T := fun _ => False) (Kp.of hb) (fun _ _ => id)
def SyP (B : Nat) (wb : Nat) (nv wv : Value) (ws : List (List UInt8)) (w : World) (e : Ending) (w' : World) : Prop :=
  e = .returned (.tuple #[]) ∧ ∃ wv', Wr B w' wb nv wv' ws ∧ At w wv wv' ∧ Kp (Tq wb wv) w w'
set_option maxRecDepth 100000 in
set_option maxHeartbeats 2000000 in
theorem say_any {Q : Nat → Prop} {uv : Value} (h : Wr B w wb nv wv ws) (hu : SlAt Q str1 1 w uv us) (hne : us ≠ []) (hl : (ws.length + us.length) * 16 ≤ 140737488355328) : Calls Tryz.prog 135 #[dp wb, uv] w (SyP B wb nv wv (ws ++ us) w) := by
  have k0 := block_cell h.blk
  have z0 := block_frozen h.blk
  have HW := hid h
  have HU := hid hu
  have HN := hid hne
  have HL := hid hl
  obtain ⟨p, c, rfl⟩ := h.own.form
  obtain ⟨pu, cu, rfl, -, -⟩ := hu.form
  clear h hu hne hl
  go_enter Tryz.func135, Tryz.ntmps135
  go_wp2_with (at_builtin; refine app_A elem_str (fun _ => rfl) (by intro y _ c hc; simp at hc; subst hc; rfl) rfl _ _ rfl rfl HW.out.own rfl HU.out HN.out HL.out (by decide) (by have := HW.out.bB; have := HW.out.lt; omega) ?_; intro v5 w5 ho hg hat; have HA5 := hid hat; have HO5 := hid ho; have HG5 := hid hg; have HX5 := hid ((Kp.grown (T := fun k => (Value.slice p ws.length c).ownBlock = some k) hg (fun k e => e)).blk HW.out.blk (fun e => HW.out.ne _ e rfl)); have k5 := block_cell HX5.out; have z5 := block_frozen HX5.out; obtain ⟨p5, c5, rfl⟩ := ho.form; clear ho hg hat)
  go_end0
  have ks : Kp (fun k => k = wb) w5 (w5.setCell ⟨wb, 1, none⟩ (.slice p5 (ws ++ us).length c5)) := Kp.set (T := fun k => k = wb) rfl _
  have kg : Kp (fun k => (Value.slice p ws.length c).ownBlock = some k) w w5 := Kp.grown HG5.out (fun k e => e)
  simp only [List.length_append] at HO5 HA5 ks
  refine ⟨rfl, _, ⟨HW.out.bB, ?_, HO5.out.kp ks (fun g hg e => ?_)⟩, HA5.out, (kg.imp (T' := Tq wb (.slice p ws.length c)) (fun i _ e => .inr e)).trans' ks (fun i _ e => .inl e)⟩
  · have := block_set HX5.out 1 (.slice p5 (ws.length + us.length) c5); simpa using this
  · subst e
    obtain ⟨c', fz, hc'⟩ := HO5.out.kind hg
    rw [HX5.out] at hc'; cases hc'
end
end Go.Proofs.YtmpjmimhoikknaaGreatDoor
namespace Go.Proofs.YtmpjmimhoikknaaGreatDoor
open Go.RowKit Go.Joins

abbrev S3 (b1 b2 g o : Nat) (v1 v2 v3 : Value) (w : World) : Prop := w.cell? ⟨b1, 0, none⟩ = some v1 ∧ w.cell? ⟨b2, 0, none⟩ = some v2 ∧ w.cell? ⟨g, o, none⟩ = some v3
theorem s3B {b1 b2 g o : Nat} {v1 v2 v3 : Value} {w w' : World} (h : S3 b1 b2 g o v1 v2 v3 w) (hb : Below w.heap.size w w') : S3 b1 b2 g o v1 v2 v3 w' :=
  ⟨(hb.cell (p := ⟨b1, 0, none⟩) (block_lt_of_cell h.1)).trans h.1, (hb.cell (p := ⟨b2, 0, none⟩) (block_lt_of_cell h.2.1)).trans h.2.1, (hb.cell (p := ⟨g, o, none⟩) (block_lt_of_cell h.2.2)).trans h.2.2⟩
theorem s3D {b1 b2 g o : Nat} {v1 v2 v3 : Value} {w : World} (h : S3 b1 b2 g o v1 v2 v3 w) : S3 b1 b2 g o v1 v2 v3 w.drew := h
theorem s3A {b1 b2 g o : Nat} {v1 v2 v3 : Value} {w : World} {x : Obj} (h : S3 b1 b2 g o v1 v2 v3 w) : S3 b1 b2 g o v1 v2 v3 (w.alloc x) := s3B h ((Below.refl _ _).alloc (Nat.le_refl _) x)
theorem strs_one (W : World) (x : List UInt8) : SlAt (fun b => b < (W.alloc (.cells #[.string (St x)] 9)).heap.size) str1 1 (W.alloc (.cells #[.string (St x)] 9)) (.slice (some ⟨W.heap.size, 0, none⟩) 1 1) [x] :=
  (Own.sl (lists_one W x) (fun _ => rfl)).imp (fun _ hb => hb.2)
section
variable {B : Nat} {w w' : World} {wb : Nat} {nv wv : Value} {ws us : List (List UInt8)}
theorem SyP.of {W : World} {e : Ending} (hk : Below w.heap.size w W) (h : SyP B wb nv wv ws W e w') : SyP B wb nv wv ws w e w' := by
  obtain ⟨he, v, h1, h2, h3⟩ := h
  exact ⟨he, v, h1, fun k hkk => (h2 k hkk).imp id (fun e => Nat.le_trans hk.size e), (Kp.of hk).trans h3⟩
theorem SyP.choose_k {e : Ending} (h : SyP B wb nv wv ws w e w') : Kp (Tq wb wv) w w' := by obtain ⟨-, v, -, -, h3⟩ := h; exact h3
set_option maxRecDepth 100000 in
set_option maxHeartbeats 2000000 in
theorem names1_any {b1 b2 k : Nat} {lv : Value} {L : List (List UInt8)} {x : List UInt8} (h : Wr B w wb nv wv ws) (h1 : w.cell? ⟨b1, 0, none⟩ = some (dp wb)) (h2 : w.cell? ⟨b2, 0, none⟩ = some lv) (n1 : ¬ Tq wb wv b1) (n2 : ¬ Tq wb wv b2) (hl : SlAt (fun b => b < B) str1 1 w lv L) (hk : L[k]? = some x) (hb : (ws.length + 1) * 16 ≤ 140737488355328) : Calls Tryz.prog 176 #[.int .i64 (k : Int), dp b1, dp b2] w (SyP B wb nv wv (ws ++ [x]) w) := by
  have HW := hid h
  have HBd := hid hb
  have hkl := (List.getElem?_eq_some_iff.1 hk).1
  obtain ⟨p, c, rfl, hc1, hc2⟩ := hl.form
  unfold maxLen at hc2
  obtain ⟨g, og, rfl, hgB, hcl⟩ := hl.at (j := k) hk
  have n3 : ¬ Tq wb wv g := fun e => e.elim (fun e => by have := h.bB; omega) (fun e => by have h5 : B ≤ g := (h.own.at e).1; omega)
  have c3 : w.cell? ⟨g, og + k, none⟩ = some (.string (St x)) := by have := hcl 0 _ rfl; rw [Nat.mul_one, Nat.add_zero] at this; exact this
  have hS0 : S3 b1 b2 g (og + k) (dp wb) (.slice (some ⟨g, og, none⟩) L.length c) (.string (St x)) w := ⟨h1, h2, c3⟩
  have k0 : (0 : Int) ≤ k := by omega
  have k1 : (k : Int) < L.length := by omega
  have HSx : Hid (∀ w5, Kp (Tq wb wv) w w5 → S3 b1 b2 g (og + k) (dp wb) (.slice (some ⟨g, og, none⟩) L.length c) (.string (St x)) w5) := fun w5 hk => ⟨hk.cell h1 n1, hk.cell h2 n2, hk.cell c3 n3⟩
  clear h h1 h2 hl hk hb hcl c3 hkl n1 n2 n3 hgB
  have HBz : Hid (Below w.heap.size w (w.drew.alloc (.cells #[.string (St x)] 9))) := (Below.refl w.heap.size w).drew.alloc (show w.heap.size ≤ w.drew.heap.size from Nat.le_refl _) _
  go_enter Tryz.func176, Tryz.ntmps176
  go_region_held3 (S3 b1 b2 g (og + k) (dp wb) (.slice (some ⟨g, og, none⟩) L.length c) (.string (St x))) (((repeat (first | (with_reducible refine s3D ?_) | (with_reducible refine s3A ?_))); (with_reducible assumption)))
    (first | (go_at_call 135; refine (say_any (us := [x]) (HW.out.on HBz.out) (strs_one w.drew x) (by simp) HBd.out).mono ?_; rintro e w5 hs5; have HS5 := hid (SyP.of HBz.out hs5); obtain ⟨rfl, -⟩ := id hs5; clear hs5; have hS5 := HSx.out _ HS5.out.choose_k))
  all_goals
    (clear hS0
     go_wp2
     go_end0
     exact HS5.out)
end
end Go.Proofs.YtmpjmimhoikknaaGreatDoor
namespace Go.Proofs.YtmpjmimhoikknaaGreatDoor
open Go.RowKit Go.Joins

/- A value's eleven cells, written out; its buckets' eight. -/
abbrev V (k n : Int) (s : ByteArray) (a0 a1 a2 a3 a4 a5 a6 a7 : Int) : Value := .agg #[.int .i64 k, .int .i64 n, .string s, .int .i64 a0, .int .i64 a1, .int .i64 a2, .int .i64 a3, .int .i64 a4, .int .i64 a5, .int .i64 a6, .int .i64 a7]
abbrev H8 (a0 a1 a2 a3 a4 a5 a6 a7 : Int) : Value := .agg #[.int .i64 a0, .int .i64 a1, .int .i64 a2, .int .i64 a3, .int .i64 a4, .int .i64 a5, .int .i64 a6, .int .i64 a7]

def eqH (a0 a1 a2 a3 a4 a5 a6 a7 b0 b1 b2 b3 b4 b5 b6 b7 : Int) : Bool :=
  decide (a0 = b0 ∧ a1 = b1 ∧ a2 = b2 ∧ a3 = b3 ∧ a4 = b4 ∧ a5 = b5 ∧ a6 = b6 ∧ a7 = b7)
def eqV (k n : Int) (s : ByteArray) (a0 a1 a2 a3 a4 a5 a6 a7 : Int) (k' n' : Int) (s' : ByteArray) (b0 b1 b2 b3 b4 b5 b6 b7 : Int) : Bool :=
  decide (k = k' ∧ n = n' ∧ s = s') && eqH a0 a1 a2 a3 a4 a5 a6 a7 b0 b1 b2 b3 b4 b5 b6 b7

theorem equalIn22 (a0 a1 a2 a3 a4 a5 a6 a7 b0 b1 b2 b3 b4 b5 b6 b7 : Int) (d : Nat) (w : World) :
    (Op.equalIn (d + 2) 37 (H8 a0 a1 a2 a3 a4 a5 a6 a7) (H8 b0 b1 b2 b3 b4 b5 b6 b7)).run Tryz.prog w = .ok (eqH a0 a1 a2 a3 a4 a5 a6 a7 b0 b1 b2 b3 b4 b5 b6 b7) w := by
  have u3 := Tryz.underlying3
  have a3' := Tryz.isAgg3
  have z3 := Tryz.sizeOf3
  rw [show d + 2 = (d + 1) + 1 from rfl, Op.equalIn]
  simp only [Sem.run_bind, run_underlying Tryz.underlying37, Result.andThen_ok]
  simp only [Std.Legacy.Range.forIn_eq_forIn_range', Std.Legacy.Range.size, Nat.sub_zero, Nat.add_sub_cancel, Nat.div_one, List.range'_succ, List.range'_zero, List.forIn_cons, List.forIn_nil]
  go_simp
  unfold eqH
  by_cases h0 : a0 = b0
  · by_cases h1 : a1 = b1
    · by_cases h2 : a2 = b2
      · by_cases h3 : a3 = b3
        · by_cases h4 : a4 = b4
          · by_cases h5 : a5 = b5
            · by_cases h6 : a6 = b6
              · by_cases h7 : a7 = b7 <;> simp [h0, h1, h2, h3, h4, h5, h6, h7]
              · simp [h0, h1, h2, h3, h4, h5, h6]
            · simp [h0, h1, h2, h3, h4, h5]
          · simp [h0, h1, h2, h3, h4]
        · simp [h0, h1, h2, h3]
      · simp [h0, h1, h2]
    · simp [h0, h1]
  · simp [h0]
theorem eql22 (a0 a1 a2 a3 a4 a5 a6 a7 b0 b1 b2 b3 b4 b5 b6 b7 : Int) (w : World) :
    (Op.equalIn 10000 37 (H8 a0 a1 a2 a3 a4 a5 a6 a7) (H8 b0 b1 b2 b3 b4 b5 b6 b7)).run Tryz.prog w = .ok (eqH a0 a1 a2 a3 a4 a5 a6 a7 b0 b1 b2 b3 b4 b5 b6 b7) w :=
  equalIn22 _ _ _ _ _ _ _ _ _ _ _ _ _ _ _ _ 9998 w
theorem bytes_beq (s t : ByteArray) : (s.toList == t.toList) = decide (s = t) := by
  by_cases h : s = t
  · subst h; simp
  · have : ¬ s.toList = t.toList := fun e => h (bytes_toList_inj e)
    simp [h, this]
theorem equalIn24 (k n : Int) (s : ByteArray) (a0 a1 a2 a3 a4 a5 a6 a7 : Int) (k' n' : Int) (s' : ByteArray) (b0 b1 b2 b3 b4 b5 b6 b7 : Int) (d : Nat) (w : World) :
    (Op.equalIn (d + 3) 39 (V k n s a0 a1 a2 a3 a4 a5 a6 a7) (V k' n' s' b0 b1 b2 b3 b4 b5 b6 b7)).run Tryz.prog w = .ok (eqV k n s a0 a1 a2 a3 a4 a5 a6 a7 k' n' s' b0 b1 b2 b3 b4 b5 b6 b7) w := by
  have u3 := Tryz.underlying3
  have a3' := Tryz.isAgg3
  have z3 := Tryz.sizeOf3
  have u9 := Tryz.underlying9
  have a9' := Tryz.isAgg9
  have z9 := Tryz.sizeOf9
  have a22' := Tryz.isAgg37
  have z22 := Tryz.sizeOf37
  have hS : Tryz.prog.underlying 39 = some (.struct (Tryz.prog.fieldsOf 39)) := by kernel_rfl
  have e22 := equalIn22 a0 a1 a2 a3 a4 a5 a6 a7 b0 b1 b2 b3 b4 b5 b6 b7 d
  rw [show d + 3 = (d + 2) + 1 from rfl, run_equalIn_agg w (d + 2) 39 _ _ hS Tryz.stoodInHeld39]
  simp only [Program.fieldsOf, Tryz.underlying39]
  have hb := bytes_beq s s'
  go_simp
  unfold eqV
  by_cases h0 : k = k'
  · by_cases h1 : n = n'
    · by_cases h2 : s = s'
      · cases eqH a0 a1 a2 a3 a4 a5 a6 a7 b0 b1 b2 b3 b4 b5 b6 b7 <;> simp [h0, h1, h2]
      · simp [h0, h1, h2]
    · simp [h0, h1]
  · simp [h0]
theorem eql24 (k n : Int) (s : ByteArray) (a0 a1 a2 a3 a4 a5 a6 a7 : Int) (k' n' : Int) (s' : ByteArray) (b0 b1 b2 b3 b4 b5 b6 b7 : Int) (w : World) :
    (Op.equalIn 10000 39 (V k n s a0 a1 a2 a3 a4 a5 a6 a7) (V k' n' s' b0 b1 b2 b3 b4 b5 b6 b7)).run Tryz.prog w = .ok (eqV k n s a0 a1 a2 a3 a4 a5 a6 a7 k' n' s' b0 b1 b2 b3 b4 b5 b6 b7) w :=
  equalIn24 _ _ _ _ _ _ _ _ _ _ _ _ _ _ _ _ _ _ _ _ _ _ 9997 w
theorem eql_val (x : Int × Int × List UInt8) (w : World) : (Op.equalIn 10000 39 (.agg (VlV x)) (.agg (VlV x))).run Tryz.prog w = .ok true w := by
  have := eql24 x.1 x.2.1 (St x.2.2) 0 0 0 0 0 0 0 0 x.1 x.2.1 (St x.2.2) 0 0 0 0 0 0 0 0 w
  rw [this]; simp [eqV, eqH]
set_option maxRecDepth 100000 in
theorem eql_agg (k : Int) (s : ByteArray) (w : World) : (Op.equalIn 10000 61 (.agg #[.int .i64 k, .string s]) (.agg #[.int .i64 k, .string s])).run Tryz.prog w = .ok true w := by
  have u3 := Tryz.underlying3
  have a3' := Tryz.isAgg3
  have z3 := Tryz.sizeOf3
  have u9 := Tryz.underlying9
  have a9' := Tryz.isAgg9
  have z9 := Tryz.sizeOf9
  have hS : Tryz.prog.underlying 61 = some (.struct (Tryz.prog.fieldsOf 61)) := by kernel_rfl
  rw [show (10000 : Nat) = 9999 + 1 from rfl, run_equalIn_agg w 9999 61 _ _ hS Tryz.stoodInHeld61]
  simp only [Program.fieldsOf, Tryz.underlying61]
  have hb := bytes_beq s s
  go_simp
end Go.Proofs.YtmpjmimhoikknaaGreatDoor
