/-
  The reference's reader: not, ahead of an opening bracket.
  A node in its box, while the reference's reader reads on.
  Print's isTree.
  The values' cells written out, what Go's comparison of two such values answers, and what OfInt, OfStr, OfBool and ofBuckets of package value return: for every input, with nothing older in memory turned.
  What value.Valid returns, for every value.
-/
import Derived.Test.YtcidijjbcebcbaaProg
import Derived.Test.YtcidijjbcebcbaaKH03
import Derived.Test.YtcidijjbcebcbaaKH07
import Derived.Deep.MidRow
import Derived.Deep.QuietTactic
import Derived.BigQuiet
import Derived.KernelRfl
import Derived.WalkKit
import Derived.WalkSpells
import Derived.WalkLawsBesides
import Derived.Deep.RegionWith
import Derived.ChangeKeysEq
namespace Go.Proofs.Ytcidijjbcebcbaa
open Go.RowKit Go.Joins

section
variable {B : Nat} {ts : List Tp} {w w' : World} {rb : Nat} {tv sv : Value} {E : Int} {o i : Nat} {qs : List Nd}
theorem rsees_no (h : Ry B ts w rb tv sv E o i qs) {x : List UInt8} (hx : isE E ts i x = false) : Calls Try.prog 87 #[dp rb, .string (St x)] w fun e w' => e = .returned (.bool false) ∧ Ry B ts w' rb tv sv E o i qs ∧ Kp (fun k => k = rb) w w' := by
  have := rsees_any h x
  rw [hx] at this
  exact this
theorem rsees_yes (h : Ry B ts w rb tv sv E o i qs) {x : List UInt8} (hx : isE E ts i x = true) : Calls Try.prog 87 #[dp rb, .string (St x)] w fun e w' => e = .returned (.bool true) ∧ Ry B ts w' rb tv sv E o (i + 1) qs ∧ Kp (fun k => k = rb) w w' := by
  have := rsees_any h x
  rw [hx] at this
  exact this
theorem isE0 {x : List UInt8} : isE 0 ts i x = isW ts i x := rfl
/- Deeper than may be, nothing is read. -/
theorem rnot17 (p : PN) : PNy 113 B ts rb tv 17 p := fun w sv E i qs hO h => by
  have hE := hO (Nat.le_refl _)
  refine (rnot_err h hE).mono ?_
  rintro e w' ⟨rfl, rfl⟩
  exact ⟨Kp.refl _ _, 0, E, i, sv, qs, rfl, by omega, h, At.refl _ _, .inl ⟨if_neg hE, hE⟩⟩
theorem rcondB_any {p : PN} (hp : PNy 113 B ts rb tv o p) (hg : GoN ts p) : PNy 52 B ts rb tv o (condB ts p) := fun _ _ _ _ _ hO h =>
  rcond_any (p := bothB ts p) (fun _ _ _ _ _ hO h => rboth_any hp hg hO h) (both_go hg) hO h
theorem gon_bad : GoN ts (fun i _ => .bad i 2) := fun i ns r j h => by cases h
theorem rcond17 (h : Ry B ts w rb tv sv 2 (o + 1) i qs) (ho : o = 16) : Calls Try.prog 52 #[dp rb] w fun e w' => Kp (Tq rb sv) w w' ∧ ∃ (z : Int) (sv' : Value) (qs' : List Nd), e = .returned (.int .i64 z) ∧ (-1 ≤ z ∧ z ≤ 1024) ∧ Ry B ts w' rb tv sv' 2 (o + 1) i qs' ∧ At w sv sv' := by
  subst ho
  refine (rcondB_any (rnot17 (fun i _ => .bad i 2)) gon_bad w sv 2 i qs (fun _ => by decide) h).mono ?_
  rintro e w' ⟨hk, z, E, j, sv', qs', he, hz, hr, ha, hc⟩
  rcases hc with ⟨hb, hE⟩ | ⟨a, -, hb, -⟩
  · unfold lf at hb; rw [if_neg (by decide)] at hb; cases hb
    exact ⟨hk, z, sv', qs', he, hz, hr, ha⟩
  · unfold lf at hb; rw [if_neg (by decide)] at hb; cases hb
theorem open_fin {p : PN} {j j5 : Nat} {z E E5 : Int} {ns ns1 : List Np} (hn : isW ts i wNot = false) (hw : isW ts i wOpen = true) (h : Cm2 (lf 0 (i + 1) (condB ts p (i + 1) ns)) z ns1 j E) (h5 : Cm (lf E j (wantS ts wShut j)) () j5 E5) : Cm2 (lf 0 i (notB ts (some p) i ns)) z ns1 j5 E5 := by
  have e0 : lf 0 i (notB ts (some p) i ns) = (condB ts p (i + 1) ns).and fun r j => (wantS ts wShut j).and fun _ j => .ok r j := by
    unfold lf notB; rw [if_pos rfl, hn, if_neg (by decide), if_pos hw]
    unfold inBr; rw [if_pos hw]; rfl
  rw [e0]
  rcases h with ⟨h, hE⟩ | ⟨a, rfl, h, rfl⟩
  · unfold lf at h h5; rw [if_pos rfl] at h; rw [if_neg hE] at h5
    rw [h]
    rcases h5 with ⟨h5, hE5⟩ | ⟨h5, hE5⟩
    · cases h5; exact .inl ⟨rfl, hE⟩
    · cases h5
  · unfold lf at h h5; rw [if_pos rfl] at h h5
    rw [h]
    rcases h5 with ⟨h5, hE5⟩ | ⟨h5, rfl⟩
    · refine .inl ⟨?_, hE5⟩
      show (wantS ts wShut j).and _ = _
      rw [h5]; rfl
    · refine .inr ⟨a, rfl, ?_, rfl⟩
      show (wantS ts wShut j).and _ = _
      rw [h5]; rfl
set_option maxRecDepth 100000 in
set_option maxHeartbeats 400000 in
theorem rnot_open0 (ho : o = 16) (h : Ry B ts w rb tv sv 0 o i qs) (hn : isW ts i wNot = false) (hw : isW ts i wOpen = true) : Calls Try.prog 113 #[dp rb] w (Y2 B ts rb tv sv o w (lf 0 i (notB ts none i (qs.map (·.np))))) := by
  have k0 := h.cell
  have HQL := hid h.ql
  have HN := hid hn
  have HW := hid hw
  have HS := hid (rsees_no h (x := wNot) hn)
  have hk0 : ((o : Int) + 1) - 1 = o := by omega
  have o0 : (0 : Int) ≤ o := by omega
  have o1 : (o : Int) ≤ 17 := by have := h.ol; omega
  have HO16 := hid ho
  have M1 : Hid True := trivial
  generalize hT : lf 0 i (notB ts none i (qs.map (·.np))) = T at *
  have HTt := hid hT
  clear h hw hn hT ho
  go_enter Try.func113, Try.ntmps113
  go_upto_region 13 with (first
    | (go_at_call 87; have FIRST := M1; refine HS.out.mono ?_; rintro e w1 ⟨rfl, hq, hk⟩; have HQ1 := hid hq; have HK1 := hid hk; clear hq hk M1 FIRST)
    | (go_at_call 87; refine (rsees_yes HQ1.out (x := wOpen) HW.out).mono ?_; rintro e w1b ⟨rfl, hq, hk⟩; have HQ1b := hid hq; have HK1b := hid (HK1.out.trans hk); clear hq hk)
    | (go_at_call 132; refine (rdeeper_long HQ1b.out (by have := HQL.out; omega) HO16.out).mono ?_; rintro e w2 ⟨rfl, hk, hq⟩; have HQ2 := hid hq; have HK2 := hid (HK1b.out.trans hk); clear hq hk)
    | (go_at_call 52; refine (rcond17 HQ2.out HO16.out).mono ?_; rintro e w3 ⟨hk, z3, sv3, qs3, rfl, hz3, hq, ha⟩; have HK3 := hid (HK2.out.r.next (At.refl w sv) hk); have HQ3 := hid hq; have HA3 := hid ((At.refl w sv).trans ha HK2.out.size); have HZ3 := hid hz3; clear hk hq ha hz3)
    | (go_at_call 133; refine (rwants_any HQ3.out wShut).mono ?_; rintro e w4 ⟨hk, x4, v4, E4, j4, rfl, hv4, hq, hc⟩; obtain rfl := hv4; have HK4 := hid (HK3.out.next HA3.out hk.r); have HQ4 := hid hq; have HC4 := hid hc; have k2 := hq.cell; have z2 := hq.frozen; simp only [Int.natCast_add, Int.cast_ofNat_Int] at k2; clear hk hq hc))
  have HQ6 := hid (Ry.less HQ4.out)
  have HK6 := hid (HK4.out.next HA3.out (Kp.set (T := fun k => k = rb) (w := w4) (b := rb) (i := 4) rfl (.int .i64 (o : Int))).r)
  clear k2 z2 k0
  generalize w4.setCell ⟨rb, 4, none⟩ (.int .i64 (o : Int)) = W6 at *
  go_wp2_with fail
  go_ret
  refine ⟨HK6.out, z3, E4, j4, sv3, qs3, rfl, HZ3.out, HQ6.out, HA3.out, ?_⟩
  have e0 : lf 0 i (notB ts none i (qs.map (·.np))) = .bad i 2 := by unfold lf notB; rw [if_pos rfl, HN.out, if_neg (by decide), if_pos HW.out]; unfold inBr; rw [if_pos HW.out]; rfl
  rw [← HTt.out, e0]
  have h5 := HC4.out
  unfold lf at h5; rw [if_neg (by decide)] at h5
  rcases h5 with ⟨h5, hE5⟩ | ⟨h5, hE5⟩
  · cases h5; exact .inl ⟨rfl, hE5⟩
  · cases h5
set_option maxRecDepth 100000 in
set_option maxHeartbeats 400000 in
theorem rnot_open1 {p : PN} (ho : o < 16) (hp : PNy 113 B ts rb tv (o + 1) p) (hg : GoN ts p) (h : Ry B ts w rb tv sv 0 o i qs) (hn : isW ts i wNot = false) (hw : isW ts i wOpen = true) : Calls Try.prog 113 #[dp rb] w (Y2 B ts rb tv sv o w (lf 0 i (notB ts (some p) i (qs.map (·.np))))) := by
  have k0 := h.cell
  have HQL := hid h.ql
  have HN := hid hn
  have HW := hid hw
  have HP := hid (rcondB_any hp hg)
  have HS := hid (rsees_no h (x := wNot) hn)
  have hk0 : ((o : Int) + 1) - 1 = o := by omega
  have o0 : (0 : Int) ≤ o := by omega
  have o1 : (o : Int) ≤ 17 := by have := h.ol; omega
  have HO16 := hid ho
  have M1 : Hid True := trivial
  generalize hT : lf 0 i (notB ts (some p) i (qs.map (·.np))) = T at *
  have HTt := hid hT
  clear h hw hn hT ho hp hg
  go_enter Try.func113, Try.ntmps113
  go_upto_region 13 with (first
    | (go_at_call 87; have FIRST := M1; refine HS.out.mono ?_; rintro e w1 ⟨rfl, hq, hk⟩; have HQ1 := hid hq; have HK1 := hid hk; clear hq hk M1 FIRST)
    | (go_at_call 87; refine (rsees_yes HQ1.out (x := wOpen) HW.out).mono ?_; rintro e w1b ⟨rfl, hq, hk⟩; have HQ1b := hid hq; have HK1b := hid (HK1.out.trans hk); clear hq hk)
    | (go_at_call 132; refine (rdeeper_ok HQ1b.out (by have := HQL.out; omega) HO16.out).mono ?_; rintro e w2 ⟨rfl, hk, hq⟩; have HQ2 := hid hq; have HK2 := hid (HK1b.out.trans hk); clear hq hk)
    | (go_at_call 52; refine (HP.out _ _ _ _ _ (fun h17 => absurd HO16.out (by omega)) HQ2.out).mono ?_; rintro e w3 ⟨hk, z3, E3, j3, sv3, qs3, rfl, hz3, hq, ha, hc⟩; have HK3 := hid (HK2.out.r.next (At.refl w sv) hk); have HQ3 := hid hq; have HC3 := hid hc; have HA3 := hid ((At.refl w sv).trans ha HK2.out.size); have HZ3 := hid hz3; clear hk hq hc ha hz3)
    | (go_at_call 133; refine (rwants_any HQ3.out wShut).mono ?_; rintro e w4 ⟨hk, x4, v4, E4, j4, rfl, hv4, hq, hc⟩; obtain rfl := hv4; have HK4 := hid (HK3.out.next HA3.out hk.r); have HQ4 := hid hq; have HC4 := hid hc; have k2 := hq.cell; have z2 := hq.frozen; simp only [Int.natCast_add, Int.cast_ofNat_Int] at k2; clear hk hq hc))
  have HQ6 := hid (Ry.less HQ4.out)
  have HK6 := hid (HK4.out.next HA3.out (Kp.set (T := fun k => k = rb) (w := w4) (b := rb) (i := 4) rfl (.int .i64 (o : Int))).r)
  clear k2 z2 k0
  generalize w4.setCell ⟨rb, 4, none⟩ (.int .i64 (o : Int)) = W6 at *
  go_wp2_with fail
  go_ret
  refine ⟨HK6.out, z3, E4, j4, sv3, qs3, rfl, HZ3.out, HQ6.out, HA3.out, ?_⟩
  rw [← HTt.out]
  exact open_fin HN.out HW.out HC3.out HC4.out
theorem rnot_open {d : Option PN} (hd : DeepY 113 B ts rb tv o d) (h : Ry B ts w rb tv sv 0 o i qs) (hn : isW ts i wNot = false) (hw : isW ts i wOpen = true) : Calls Try.prog 113 #[dp rb] w (Y2 B ts rb tv sv o w (lf 0 i (notB ts d i (qs.map (·.np))))) := by
  cases d with
  | none => exact rnot_open0 hd h hn hw
  | some p => exact rnot_open1 hd.1 hd.2.1 hd.2.2 h hn hw
end
end Go.Proofs.Ytcidijjbcebcbaa
namespace Go.Proofs.Ytcidijjbcebcbaa
open Go.RowKit Go.Joins

def setL : Array Value → Nat → List Value → Array Value
  | xs, _, [] => xs
  | xs, o, v :: r => setL (xs.setIfInBounds o v) (o + 1) r
theorem setCells_blk {b : Nat} {t : TypeId} {fz : Nat × Nat} : ∀ (vs : List Value) (o : Nat) (w : World) (xs : Array Value), w.heap[b]? = some (.cells xs t fz) → (w.setCells b o vs).heap[b]? = some (.cells (setL xs o vs) t fz)
  | [], _, _, _, h => h
  | v :: r, o, w, xs, h => by rw [World.setCells]; exact setCells_blk r (o + 1) _ _ (block_set h o v)
theorem setCells_kp {b : Nat} : ∀ (vs : List Value) (o : Nat) (w : World), Kp (fun k => k = b) w (w.setCells b o vs)
  | [], _, w => Kp.refl _ _
  | v :: r, o, w => by rw [World.setCells]; exact (Kp.set (T := fun k => k = b) rfl v).trans (setCells_kp r (o + 1) _)
theorem load_node {ops : Array Oper} {rest : List Oper} {op : Oper} {a : Act} {w : World} {Q : Exit → Act → World → Prop} (hgd : op.guard = none) (x : Operand) (ho : op.op = .load 51 x) {nb : Nat} {q : Nd} (hx : a.eval x = dp nb) (hS : S6 nb q.cells.toArray w)
    (h : wpList Try.prog ops Q rest (a.put op.dst (.agg q.cells.toArray)) w) : wpList Try.prog ops Q (op :: rest) a w :=
  wpList_load_mid hgd 51 x ho nb 0 hx q.cells _ (s6_range hS) Try.underlying51 rfl size_node h
theorem s6_there {nb : Nat} {q : Nd} {w : World} (hS : S6 nb q.cells.toArray w) : w.there nb 5 11 := fun j hj => by
  refine ⟨?_, block_frozen hS _⟩
  rw [block_cell hS, Array.getElem?_eq_getElem (by show 5 + j < 19; omega)]
  rfl
theorem set_nv (q : Nd) (c : Int × Int × List UInt8) : setL q.cells.toArray 5 (VlV c).toList = ({ q with np := { q.np with vk := c.1, vn := c.2.1, vs := c.2.2 } } : Nd).cells.toArray := by
  kernel_rfl
theorem store_nv {ops : Array Oper} {rest : List Oper} {op : Oper} {a : Act} {w : World} {Q : Exit → Act → World → Prop} (hgd : op.guard = none) (x y : Operand) (ho : op.op = .store 39 x y) {nb : Nat} {q : Nd} {c : Int × Int × List UInt8} (hx : a.eval x = .pointer (some ⟨nb, 5, none⟩)) (hy : a.eval y = .agg (VlV c)) (hS : S6 nb q.cells.toArray w)
    (h : ∀ w', S6 nb ({ q with np := { q.np with vk := c.1, vn := c.2.1, vs := c.2.2 } } : Nd).cells.toArray w' → Kp (fun k => k = nb) w w' → wpList Try.prog ops Q rest (a.put op.dst undef) w') : wpList Try.prog ops Q (op :: rest) a w :=
  wpList_store_mid hgd 39 x y ho nb 5 (VlV c) hx hy (s6_there hS) size_val (one_val c) (h _ (by have := setCells_blk (VlV c).toList 5 w _ hS; rw [set_nv] at this; exact this) (setCells_kp _ _ _))
section
variable {B : Nat} {ts : List Tp} {w w' wr : World} {rb : Nat} {tv sv0 sv sv' : Value} {E E' : Int} {o o' i j j' : Nat} {qs qs' : List Nd} {nb : Nat} {q q' : Nd}
structure Bn (B : Nat) (ts : List Tp) (w : World) (rb : Nat) (tv sv0 sv : Value) (E : Int) (o j : Nat) (qs : List Nd) (nb : Nat) (q : Nd) (wr : World) : Prop where
  r : Ry B ts wr rb tv sv E o j qs
  b : S6 nb q.cells.toArray wr
  k : Kp (Tq rb sv0) w wr
  a : At w sv0 sv
  n : w.heap.size ≤ nb
  l : rb < w.heap.size
  s : ∀ g, sv.ownBlock = some g → g ≠ nb
theorem Bn.ne (h : Bn B ts w rb tv sv0 sv E o j qs nb q wr) : nb ≠ rb := by have := h.n; have := h.l; omega
theorem Bn.y1 (h : Bn B ts w rb tv sv0 sv E o j qs nb q wr) (hk : Kp (fun k => k = rb) wr w') (hr : Ry B ts w' rb tv sv E' o' j' qs) : Bn B ts w rb tv sv0 sv E' o' j' qs nb q w' :=
  ⟨hr, hk.blk h.b h.ne, h.k.next h.a hk.r, h.a, h.n, h.l, h.s⟩
theorem Bn.y2 (h : Bn B ts w rb tv sv0 sv E o j qs nb q wr) (hk : Kp (Tq rb sv) wr w') (ha : At wr sv sv') (hr : Ry B ts w' rb tv sv' E' o' j' qs') : Bn B ts w rb tv sv0 sv' E' o' j' qs' nb q w' :=
  ⟨hr, hk.blk h.b (fun e => e.elim (fun e => h.ne e) (fun e => h.s _ e rfl)), h.k.next h.a hk, h.a.trans ha h.k.size, h.n, h.l, fun g hg e => by
    rcases ha g hg with h1 | h1
    · exact h.s g h1 e
    · have := lt_of_block h.b; omega⟩
theorem Bn.tk (h : Bn B ts w rb tv sv0 sv E o j qs nb q wr) : TK wr (fun k => k = nb) := by
  rintro k rfl c t fz hc
  have hb : wr.heap[k]? = some (.cells q.cells.toArray 51 (0, 0)) := h.b
  rw [hb] at hc; cases hc; decide
theorem Bn.set (h : Bn B ts w rb tv sv0 sv E o j qs nb q wr) (hS : S6 nb q'.cells.toArray w') (hk : Kp (fun k => k = nb) wr w') : Bn B ts w rb tv sv0 sv E o j qs nb q' w' :=
  ⟨h.r.kp hk (fun k e e2 => e.elim (fun e => h.ne (e2.symm.trans e)) (fun e => h.s _ e e2)) h.tk (fun k e => by have := h.r.bB; have := h.n; have := h.l; omega), hS, h.k.trans' hk (fun i hi e => by have := h.n; omega), h.a, h.n, h.l, h.s⟩
theorem Bn.set1 (h : Bn B ts w rb tv sv0 sv E o j qs nb q wr) (c : Nat) (v : Value) (hq : q.cells.toArray.setIfInBounds c v = q'.cells.toArray) : Bn B ts w rb tv sv0 sv E o j qs nb q' (wr.setCell ⟨nb, c, none⟩ v) :=
  h.set (by have := block_set h.b c v; rw [hq] at this; exact this) (Kp.set (T := fun k => k = nb) rfl v)
theorem Bn.on (h : Bn B ts w rb tv sv0 sv E o j qs nb q wr) (hb : Below wr.heap.size wr w') : Bn B ts w rb tv sv0 sv E o j qs nb q w' :=
  h.y1 (Kp.of hb) (h.r.on hb)
theorem Bn.start (h : Ry B ts wr rb tv sv E o j qs) (hk : Kp (Tq rb sv0) w wr) (ha : At w sv0 sv) (hl : rb < w.heap.size) (q : Nd) : Bn B ts w rb tv sv0 sv E o j qs wr.heap.size q (wr.alloc (.cells q.cells.toArray 51)) :=
  ⟨h.on ((Below.refl _ _).alloc (Nat.le_refl _) _), alloc_block _ _, hk.trans (Kp.alloc _ _ _), ha, hk.size, hl, fun g hg e => by have h1 : g < wr.heap.size := (h.own.at hg).2; omega⟩
theorem Bn.start2 (h : Ry B ts wr rb tv sv E o j qs) (hk : Kp (Tq rb sv0) w wr) (ha : At w sv0 sv) (hl : rb < w.heap.size) (hS : S6 wr.heap.size q.cells.toArray w') (hk' : Kp (fun k => k = wr.heap.size) (wr.alloc (.cells zNd 51)) w') : Bn B ts w rb tv sv0 sv E o j qs wr.heap.size q w' :=
  (Bn.start h hk ha hl (bare n0)).set hS hk'
end
end Go.Proofs.Ytcidijjbcebcbaa
namespace Go.Proofs.Ytcidijjbcebcbaa
open Go.RowKit Go.Joins

/- A node as it may be handed in: its value's numbers, its rows wherever they lie. -/
structure Nx where
  np : Np
  h0 : Int
  h1 : Int
  h2 : Int
  h3 : Int
  h4 : Int
  h5 : Int
  h6 : Int
  h7 : Int
  lv : Value
  nv : Value
  gv : Value
def Nx.cells (q : Nx) : List Value := [.int .i64 q.np.kind, .string (St q.np.s), .int .i64 q.np.n, .int .i64 q.np.from_, .int .i64 q.np.to_, .int .i64 q.np.vk, .int .i64 q.np.vn, .string (St q.np.vs), .int .i64 q.h0, .int .i64 q.h1, .int .i64 q.h2, .int .i64 q.h3, .int .i64 q.h4, .int .i64 q.h5, .int .i64 q.h6, .int .i64 q.h7, q.lv, q.nv, q.gv]
structure NxAt (Q : Nat → Prop) (w : World) (q : Nx) : Prop where
  l : SlAt Q int1 1 w q.lv q.np.l
  n : SlAt Q str1 1 w q.nv q.np.names
  g : SlAt Q ag2 2 w q.gv q.np.aggs
structure Qx (Q : Nat → Prop) (w : World) (v : Value) (qs : List Nx) : Prop where
  sl : SlAt Q Nx.cells 19 w v qs
  each : ∀ q ∈ qs, NxAt Q w q
theorem NxAt.kp {Q T : Nat → Prop} {w w' : World} {q : Nx} (h : NxAt Q w q) (hk : Kp T w w') (ht : ∀ b, Q b → ¬ T b) : NxAt Q w' q := ⟨h.l.kp hk ht, h.n.kp hk ht, h.g.kp hk ht⟩
theorem Qx.kp {Q T : Nat → Prop} {w w' : World} {v : Value} {qs : List Nx} (h : Qx Q w v qs) (hk : Kp T w w') (ht : ∀ b, Q b → ¬ T b) : Qx Q w' v qs := ⟨h.sl.kp hk ht, fun q hq => (h.each q hq).kp hk ht⟩
theorem SlAt.one {α : Type} {Q : Nat → Prop} {enc : α → List Value} {k : Nat} {w : World} {v : Value} {xs : List α} (h : SlAt Q enc k w v xs) : v.oneCell' = true := by obtain ⟨p, c, rfl, -⟩ := h; rfl
theorem nx_one {Q : Nat → Prop} {w : World} {q : Nx} (h : NxAt Q w q) : ∀ c ∈ q.cells, c.oneCell' = true := by
  intro v hv
  have h1 := h.l.one
  have h2 := h.n.one
  have h3 := h.g.one
  simp [Nx.cells] at hv
  rcases hv with rfl | rfl | rfl | rfl | rfl | rfl | rfl | rfl | rfl | rfl | rfl | rfl | rfl | rfl | rfl | rfl | rfl | rfl | rfl <;> first | rfl | assumption
/- As mathematics. -/
def nmL (i : Nat) (seen : List Int) : List Int → Option (List Int)
  | [] => some seen
  | k :: r => if k < 0 ∨ (i : Int) ≤ k ∨ k ∈ seen then none else nmL i (k :: seen) r
def treeL : List Np → Nat → List Int → Bool
  | [], _, _ => true
  | n :: r, i, seen => if (n.l.length : Int) = belowN n.kind then (match nmL i seen n.l with | none => false | some s => treeL r (i + 1) s) else false
def isTreeB (ns : List Np) : Bool := if ns.length = 0 ∨ 128 < ns.length then false else treeL ns 0 []
def blA (seen : List Int) : Array Value := ((List.range 128).map fun (j : Nat) => Value.bool (decide ((j : Int) ∈ seen))).toArray
theorem blA_at (seen : List Int) (k : Nat) (hk : k < 128) : (blA seen)[k]? = some (.bool (decide ((k : Int) ∈ seen))) := by
  unfold blA; simp [hk]
theorem blA_set (seen : List Int) (k : Nat) : (blA seen).setIfInBounds k (.bool true) = blA ((k : Int) :: seen) := by
  apply Array.ext'
  apply List.ext_getElem?
  intro j
  unfold blA
  simp only [List.setIfInBounds_toArray, List.getElem?_set, List.getElem?_map, List.length_map, List.length_range]
  by_cases hj : j < 128
  · by_cases e : k = j
    · subst e; simp [hj]
    · have : ¬ (j : Int) = k := by omega
      simp [e, hj, this]
  · by_cases e : k = j
    · subst e; simp [hj]
    · simp [e, hj]
theorem blA_nil : blA [] = Array.replicate 128 (.bool false) := by kernel_rfl
end Go.Proofs.Ytcidijjbcebcbaa
namespace Go.Proofs.Ytcidijjbcebcbaa.TN
open Go.RowKit

/- A value's eleven cells, written out; its buckets' eight. -/
abbrev V (k n : Int) (s : ByteArray) (a0 a1 a2 a3 a4 a5 a6 a7 : Int) : Value := .agg #[.int .i64 k, .int .i64 n, .string s, .int .i64 a0, .int .i64 a1, .int .i64 a2, .int .i64 a3, .int .i64 a4, .int .i64 a5, .int .i64 a6, .int .i64 a7]
abbrev H8 (a0 a1 a2 a3 a4 a5 a6 a7 : Int) : Value := .agg #[.int .i64 a0, .int .i64 a1, .int .i64 a2, .int .i64 a3, .int .i64 a4, .int .i64 a5, .int .i64 a6, .int .i64 a7]

def eqH (a0 a1 a2 a3 a4 a5 a6 a7 b0 b1 b2 b3 b4 b5 b6 b7 : Int) : Bool :=
  decide (a0 = b0 ∧ a1 = b1 ∧ a2 = b2 ∧ a3 = b3 ∧ a4 = b4 ∧ a5 = b5 ∧ a6 = b6 ∧ a7 = b7)
def eqV (k n : Int) (s : ByteArray) (a0 a1 a2 a3 a4 a5 a6 a7 : Int) (k' n' : Int) (s' : ByteArray) (b0 b1 b2 b3 b4 b5 b6 b7 : Int) : Bool :=
  decide (k = k' ∧ n = n' ∧ s = s') && eqH a0 a1 a2 a3 a4 a5 a6 a7 b0 b1 b2 b3 b4 b5 b6 b7

theorem equalIn22 (a0 a1 a2 a3 a4 a5 a6 a7 b0 b1 b2 b3 b4 b5 b6 b7 : Int) (d : Nat) (w : World) :
    (Op.equalIn (d + 2) 37 (H8 a0 a1 a2 a3 a4 a5 a6 a7) (H8 b0 b1 b2 b3 b4 b5 b6 b7)).run Try.prog w = .ok (eqH a0 a1 a2 a3 a4 a5 a6 a7 b0 b1 b2 b3 b4 b5 b6 b7) w := by
  have u3 := Try.underlying3
  have a3' := Try.isAgg3
  have z3 := Try.sizeOf3
  rw [show d + 2 = (d + 1) + 1 from rfl, Op.equalIn]
  simp only [Sem.run_bind, run_underlying Try.underlying37, Result.andThen_ok]
  simp only [Std.Legacy.Range.forIn_eq_forIn_range', Std.Legacy.Range.size, Nat.sub_zero, Nat.add_sub_cancel, Nat.div_one, List.range'_succ, List.range'_zero, List.forIn_cons, List.forIn_nil]
  go_simp
  unfold eqH
  by_cases h0 : a0 = b0
  · by_cases h1 : a1 = b1
    · by_cases h2 : a2 = b2
      · by_cases h3 : a3 = b3
        · by_cases h4 : a4 = b4
          · by_cases h5 : a5 = b5
            · by_cases h6 : a6 = b6
              · by_cases h7 : a7 = b7 <;> simp [h0, h1, h2, h3, h4, h5, h6, h7]
              · simp [h0, h1, h2, h3, h4, h5, h6]
            · simp [h0, h1, h2, h3, h4, h5]
          · simp [h0, h1, h2, h3, h4]
        · simp [h0, h1, h2, h3]
      · simp [h0, h1, h2]
    · simp [h0, h1]
  · simp [h0]
theorem eql22 (a0 a1 a2 a3 a4 a5 a6 a7 b0 b1 b2 b3 b4 b5 b6 b7 : Int) (w : World) :
    (Op.equalIn 10000 37 (H8 a0 a1 a2 a3 a4 a5 a6 a7) (H8 b0 b1 b2 b3 b4 b5 b6 b7)).run Try.prog w = .ok (eqH a0 a1 a2 a3 a4 a5 a6 a7 b0 b1 b2 b3 b4 b5 b6 b7) w :=
  equalIn22 _ _ _ _ _ _ _ _ _ _ _ _ _ _ _ _ 9998 w
theorem bytes_toList_inj {s t : ByteArray} (h : s.toList = t.toList) : s = t := by
  rw [ByteArray.toList_eq, ByteArray.toList_eq] at h
  obtain ⟨⟨x⟩⟩ := s
  obtain ⟨⟨y⟩⟩ := t
  simp at h
  subst h; rfl
theorem bytes_beq (s t : ByteArray) : (s.toList == t.toList) = decide (s = t) := by
  by_cases h : s = t
  · subst h; simp
  · have : ¬ s.toList = t.toList := fun e => h (bytes_toList_inj e)
    simp [h, this]
theorem equalIn24 (k n : Int) (s : ByteArray) (a0 a1 a2 a3 a4 a5 a6 a7 : Int) (k' n' : Int) (s' : ByteArray) (b0 b1 b2 b3 b4 b5 b6 b7 : Int) (d : Nat) (w : World) :
    (Op.equalIn (d + 3) 39 (V k n s a0 a1 a2 a3 a4 a5 a6 a7) (V k' n' s' b0 b1 b2 b3 b4 b5 b6 b7)).run Try.prog w = .ok (eqV k n s a0 a1 a2 a3 a4 a5 a6 a7 k' n' s' b0 b1 b2 b3 b4 b5 b6 b7) w := by
  have u3 := Try.underlying3
  have a3' := Try.isAgg3
  have z3 := Try.sizeOf3
  have u9 := Try.underlying9
  have a9' := Try.isAgg9
  have z9 := Try.sizeOf9
  have a22' := Try.isAgg37
  have z22 := Try.sizeOf37
  have hS : Try.prog.underlying 39 = some (.struct (Try.prog.fieldsOf 39)) := by kernel_rfl
  have e22 := equalIn22 a0 a1 a2 a3 a4 a5 a6 a7 b0 b1 b2 b3 b4 b5 b6 b7 d
  rw [show d + 3 = (d + 2) + 1 from rfl, run_equalIn_agg w (d + 2) 39 _ _ hS Try.stoodInHeld39]
  simp only [Program.fieldsOf, Try.underlying39]
  have hb := bytes_beq s s'
  go_simp
  unfold eqV
  by_cases h0 : k = k'
  · by_cases h1 : n = n'
    · by_cases h2 : s = s'
      · cases eqH a0 a1 a2 a3 a4 a5 a6 a7 b0 b1 b2 b3 b4 b5 b6 b7 <;> simp [h0, h1, h2]
      · simp [h0, h1, h2]
    · simp [h0, h1]
  · simp [h0]
theorem eql24 (k n : Int) (s : ByteArray) (a0 a1 a2 a3 a4 a5 a6 a7 : Int) (k' n' : Int) (s' : ByteArray) (b0 b1 b2 b3 b4 b5 b6 b7 : Int) (w : World) :
    (Op.equalIn 10000 39 (V k n s a0 a1 a2 a3 a4 a5 a6 a7) (V k' n' s' b0 b1 b2 b3 b4 b5 b6 b7)).run Try.prog w = .ok (eqV k n s a0 a1 a2 a3 a4 a5 a6 a7 k' n' s' b0 b1 b2 b3 b4 b5 b6 b7) w :=
  equalIn24 _ _ _ _ _ _ _ _ _ _ _ _ _ _ _ _ _ _ _ _ _ _ 9997 w
theorem bcell {W w1 : World} (hb : Below W.heap.size W w1) : (∀ b o, b < W.heap.size → w1.cell? ⟨b, o, none⟩ = W.cell? ⟨b, o, none⟩) ∧ (∀ b o, b < W.heap.size → w1.frozen? ⟨b, o, none⟩ = W.frozen? ⟨b, o, none⟩) :=
  ⟨fun b o h => hb.cell (p := ⟨b, o, none⟩) h, fun b o h => hb.frozen (p := ⟨b, o, none⟩) h⟩

set_option maxHeartbeats 400000 in
theorem ofInt_any {n : Int} {w : World} :
    Calls Try.prog 142 #[.int .i64 n] w fun e w' => e = .returned (V 1 n ⟨#[]⟩ 0 0 0 0 0 0 0 0) ∧ Below w.heap.size w w' := by
  go_enter Try.func142, Try.ntmps142
  go_wp2
  exact bodyPost_ret (v := V 1 n ⟨#[]⟩ 0 0 0 0 0 0 0 0) (by simp [results, Try.results142, go_sem]) rfl ⟨rfl, (Below.refl _ _).alloc (Nat.le_refl _) _⟩
def cut64 (s : ByteArray) : ByteArray := s.extract 0 64
theorem cut64_short {s : ByteArray} (h : s.size ≤ 64) : cut64 s = s := by
  unfold cut64
  apply bytes_toList_inj
  rw [ByteArray.toList_eq, ByteArray.toList_eq]
  obtain ⟨⟨x⟩⟩ := s
  simp [ByteArray.size] at h
  rw [ByteArray.data_extract]
  simp [List.take_of_length_le h]
set_option maxHeartbeats 400000 in
theorem ofStr_any {s : ByteArray} {w : World} :
    Calls Try.prog 143 #[.string s] w fun e w' => e = .returned (V 2 0 (cut64 s) 0 0 0 0 0 0 0 0) ∧ Below w.heap.size w w' := by
  by_cases h : 64 < (s.size : Int)
  · go_enter Try.func143, Try.ntmps143
    go_wp2
    exact bodyPost_ret (v := V 2 0 (cut64 s) 0 0 0 0 0 0 0 0) (by simp [results, Try.results143, go_sem, cut64]) rfl ⟨rfl, (Below.refl _ _).alloc (Nat.le_refl _) _⟩
  · have h' : (s.size : Int) ≤ 64 := by omega
    rw [cut64_short (by omega)]
    go_enter Try.func143, Try.ntmps143
    go_wp2
    exact bodyPost_ret (v := V 2 0 s 0 0 0 0 0 0 0 0) (by simp [results, Try.results143, go_sem]) rfl ⟨rfl, (Below.refl _ _).alloc (Nat.le_refl _) _⟩
def b2i (b : Bool) : Int := if b then 1 else 0
set_option maxHeartbeats 400000 in
theorem ofBool_any {b : Bool} {w : World} :
    Calls Try.prog 144 #[.bool b] w fun e w' => e = .returned (V 3 (b2i b) ⟨#[]⟩ 0 0 0 0 0 0 0 0) ∧ Below w.heap.size w w' := by
  cases b
  · go_enter Try.func144, Try.ntmps144
    go_wp2
    exact bodyPost_ret (v := V 3 0 ⟨#[]⟩ 0 0 0 0 0 0 0 0) (by simp [results, Try.results144, go_sem]) rfl ⟨rfl, (Below.refl _ _).alloc (Nat.le_refl _) _⟩
  · go_enter Try.func144, Try.ntmps144
    go_wp2
    exact bodyPost_ret (v := V 3 1 ⟨#[]⟩ 0 0 0 0 0 0 0 0) (by simp [results, Try.results144, go_sem]) rfl ⟨rfl, (Below.refl _ _).alloc (Nat.le_refl _) _⟩
set_option maxHeartbeats 400000 in
theorem ofBuckets_any {a0 a1 a2 a3 a4 a5 a6 a7 : Int} {w : World} :
    Calls Try.prog 145 #[H8 a0 a1 a2 a3 a4 a5 a6 a7] w fun e w' => e = .returned (V 4 0 ⟨#[]⟩ a0 a1 a2 a3 a4 a5 a6 a7) ∧ Below w.heap.size w w' := by
  go_enter Try.func145, Try.ntmps145
  go_wp2
  exact bodyPost_ret (v := V 4 0 ⟨#[]⟩ a0 a1 a2 a3 a4 a5 a6 a7) (by simp [results, Try.results145, go_sem]) rfl ⟨rfl, ((Below.refl _ _).alloc (Nat.le_refl _) _).alloc (by simp) _⟩

end Go.Proofs.Ytcidijjbcebcbaa.TN
namespace Go.Proofs.Ytcidijjbcebcbaa.TN
open Go.RowKit

def zeroH (a0 a1 a2 a3 a4 a5 a6 a7 : Int) : Bool := eqH a0 a1 a2 a3 a4 a5 a6 a7 0 0 0 0 0 0 0 0
def noText : ByteArray := ⟨#[]⟩
def validB (k n : Int) (s : ByteArray) (a0 a1 a2 a3 a4 a5 a6 a7 : Int) : Bool :=
  if k = 1 then decide (s = noText) && zeroH a0 a1 a2 a3 a4 a5 a6 a7
  else if k = 2 then decide (n = 0) && (zeroH a0 a1 a2 a3 a4 a5 a6 a7 && decide (s.size ≤ 64))
  else if k = 3 then decide (n = 0 ∨ n = 1) && (decide (s = noText) && zeroH a0 a1 a2 a3 a4 a5 a6 a7)
  else if k = 4 then decide (n = 0) && decide (s = noText)
  else false

theorem cut64_eq_iff (s : ByteArray) : s = cut64 s ↔ s.size ≤ 64 := by
  constructor
  · intro h
    rw [h]; unfold cut64
    rw [ByteArray.size_extract]; omega
  · intro h; exact (cut64_short h).symm
theorem eqH_self (a0 a1 a2 a3 a4 a5 a6 a7 : Int) : eqH a0 a1 a2 a3 a4 a5 a6 a7 a0 a1 a2 a3 a4 a5 a6 a7 = true := by simp [eqH]

set_option maxHeartbeats 400000 in
theorem valid_1 (n : Int) (s : ByteArray) (a0 a1 a2 a3 a4 a5 a6 a7 : Int) (w : World) :
    Calls Try.prog 122 #[V 1 n s a0 a1 a2 a3 a4 a5 a6 a7] w fun e w' => e = .returned (.bool (eqV 1 n s a0 a1 a2 a3 a4 a5 a6 a7 1 n ⟨#[]⟩ 0 0 0 0 0 0 0 0)) ∧ Below w.heap.size w w' := by
  have he := @eql24
  go_enter Try.func122, Try.ntmps122
  go_wp2_with fail
  go_region_with (first | (go_at_call 142; refine ofInt_any.mono ?_; rintro e w' ⟨rfl, hb⟩; obtain ⟨hc, hf⟩ := bcell hb))
  all_goals
    go_wp2
    go_ret
    exact ⟨rfl, ((Below.refl _ _).alloc (Nat.le_refl _) _).drew.trans (hb.mono (by simp))⟩
set_option maxHeartbeats 400000 in
theorem valid_2 (n : Int) (s : ByteArray) (a0 a1 a2 a3 a4 a5 a6 a7 : Int) (w : World) :
    Calls Try.prog 122 #[V 2 n s a0 a1 a2 a3 a4 a5 a6 a7] w fun e w' => e = .returned (.bool (eqV 2 n s a0 a1 a2 a3 a4 a5 a6 a7 2 0 (cut64 s) 0 0 0 0 0 0 0 0)) ∧ Below w.heap.size w w' := by
  have he := @eql24
  go_enter Try.func122, Try.ntmps122
  go_wp2_with fail
  go_region_with (first | (go_at_call 143; refine ofStr_any.mono ?_; rintro e w' ⟨rfl, hb⟩; obtain ⟨hc, hf⟩ := bcell hb))
  all_goals
    go_wp2
    go_ret
    exact ⟨rfl, ((Below.refl _ _).alloc (Nat.le_refl _) _).drew.trans (hb.mono (by simp))⟩
set_option maxHeartbeats 400000 in
theorem valid_3 (n : Int) (s : ByteArray) (a0 a1 a2 a3 a4 a5 a6 a7 : Int) (w : World) :
    Calls Try.prog 122 #[V 3 n s a0 a1 a2 a3 a4 a5 a6 a7] w fun e w' => e = .returned (.bool (eqV 3 n s a0 a1 a2 a3 a4 a5 a6 a7 3 (b2i (n == 1)) ⟨#[]⟩ 0 0 0 0 0 0 0 0)) ∧ Below w.heap.size w w' := by
  have he := @eql24
  go_enter Try.func122, Try.ntmps122
  go_wp2_with fail
  go_region_with (first | (go_at_call 144; refine ofBool_any.mono ?_; rintro e w' ⟨rfl, hb⟩; obtain ⟨hc, hf⟩ := bcell hb))
  all_goals
    go_wp2
    go_ret
    exact ⟨rfl, ((Below.refl _ _).alloc (Nat.le_refl _) _).drew.trans (hb.mono (by simp))⟩
set_option maxHeartbeats 400000 in
theorem valid_4 (n : Int) (s : ByteArray) (a0 a1 a2 a3 a4 a5 a6 a7 : Int) (w : World) :
    Calls Try.prog 122 #[V 4 n s a0 a1 a2 a3 a4 a5 a6 a7] w fun e w' => e = .returned (.bool (eqV 4 n s a0 a1 a2 a3 a4 a5 a6 a7 4 0 ⟨#[]⟩ a0 a1 a2 a3 a4 a5 a6 a7)) ∧ Below w.heap.size w w' := by
  have he := @eql24
  go_enter Try.func122, Try.ntmps122
  go_wp2_with fail
  go_region_with (first | (go_at_call 145; refine ofBuckets_any.mono ?_; rintro e w' ⟨rfl, hb⟩; obtain ⟨hc, hf⟩ := bcell hb))
  all_goals
    go_wp2
    go_ret
    exact ⟨rfl, ((Below.refl _ _).alloc (Nat.le_refl _) _).drew.trans (hb.mono (by simp))⟩

set_option maxHeartbeats 400000 in
theorem valid_0 (k n : Int) (s : ByteArray) (a0 a1 a2 a3 a4 a5 a6 a7 : Int) (w : World) (h1 : (k == 1) = false) (h2 : (k == 2) = false) (h3 : (k == 3) = false) (h4 : (k == 4) = false) :
    Calls Try.prog 122 #[V k n s a0 a1 a2 a3 a4 a5 a6 a7] w fun e w' => e = .returned (.bool false) ∧ Below w.heap.size w w' := by
  go_enter Try.func122, Try.ntmps122
  go_wp2
  go_ret
  exact ⟨rfl, (Below.refl _ _).alloc (Nat.le_refl _) _⟩
theorem valid_any {k n : Int} {s : ByteArray} {a0 a1 a2 a3 a4 a5 a6 a7 : Int} {w : World} :
    Calls Try.prog 122 #[V k n s a0 a1 a2 a3 a4 a5 a6 a7] w fun e w' => e = .returned (.bool (validB k n s a0 a1 a2 a3 a4 a5 a6 a7)) ∧ Below w.heap.size w w' := by
  by_cases h1 : k = 1
  · subst h1
    have h : validB 1 n s a0 a1 a2 a3 a4 a5 a6 a7 = eqV 1 n s a0 a1 a2 a3 a4 a5 a6 a7 1 n ⟨#[]⟩ 0 0 0 0 0 0 0 0 := by
      by_cases hs : s = ⟨#[]⟩ <;> simp [validB, eqV, zeroH, noText, hs]
    rw [h]; exact valid_1 _ _ _ _ _ _ _ _ _ _ _
  · by_cases h2 : k = 2
    · subst h2
      have h : validB 2 n s a0 a1 a2 a3 a4 a5 a6 a7 = eqV 2 n s a0 a1 a2 a3 a4 a5 a6 a7 2 0 (cut64 s) 0 0 0 0 0 0 0 0 := by
        have := cut64_eq_iff s
        by_cases hs : s.size ≤ 64 <;> simp [validB, eqV, zeroH, this, hs]
      rw [h]; exact valid_2 _ _ _ _ _ _ _ _ _ _ _
    · by_cases h3 : k = 3
      · subst h3
        have h : validB 3 n s a0 a1 a2 a3 a4 a5 a6 a7 = eqV 3 n s a0 a1 a2 a3 a4 a5 a6 a7 3 (b2i (n == 1)) ⟨#[]⟩ 0 0 0 0 0 0 0 0 := by
          by_cases hs : s = ⟨#[]⟩
          · by_cases hn : n = 1
            · simp [validB, eqV, zeroH, noText, hn, hs, b2i]
            · simp [validB, eqV, zeroH, noText, hn, hs, b2i]
          · simp [validB, eqV, zeroH, noText, hs]
        rw [h]; exact valid_3 _ _ _ _ _ _ _ _ _ _ _
      · by_cases h4 : k = 4
        · subst h4
          have h : validB 4 n s a0 a1 a2 a3 a4 a5 a6 a7 = eqV 4 n s a0 a1 a2 a3 a4 a5 a6 a7 4 0 ⟨#[]⟩ a0 a1 a2 a3 a4 a5 a6 a7 := by
            by_cases hs : s = ⟨#[]⟩ <;> simp [validB, eqV, noText, eqH_self, hs]
          rw [h]; exact valid_4 _ _ _ _ _ _ _ _ _ _ _
        · have h : validB k n s a0 a1 a2 a3 a4 a5 a6 a7 = false := by simp [validB, h1, h2, h3, h4]
          rw [h]; exact valid_0 _ _ _ _ _ _ _ _ _ _ _ _ (by simpa using h1) (by simpa using h2) (by simpa using h3) (by simpa using h4)
end Go.Proofs.Ytcidijjbcebcbaa.TN
