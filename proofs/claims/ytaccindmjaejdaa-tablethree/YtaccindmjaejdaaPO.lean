/-
  What the statements' small (a table of columns k and n) returns.
  What the reference's Canon returns, for every table.
-/
import Derived.Test.YtaccindmjaejdaaPE
import Derived.Test.YtaccindmjaejdaaPM
import Derived.Test.YtaccindmjaejdaaPN
import Derived.Lib.OwnKind
import Derived.Deep.RegionLaw
namespace Go.Proofs.Ytaccindmjaejdaa
open Go.RowKit Go.Sort Go.Shelf

theorem app_all {ops : Array Oper} {rest : List Oper} {o : Oper} {a : Act} {Q : Exit → Act → World → Prop} {w : World} {α : Type} {enc : α → List Value} {k e t B : Nat} {Qb : Nat → Prop} {xs ys : List α} {v u : Value}
    (hE : Elem t e k) (hk : ∀ x, (enc x).length = k) (h1 : ∀ y ∈ ys, ∀ c ∈ enc y, c.oneCell' = true) (hgd : o.guard = none) (s x : Operand) (ho : o.op = .call { callee := .builtin .append, args := #[s, x], argTypes := #[t, t] })
    (hs : a.eval s = v) (hown : Own enc k e B w v xs) (hx : a.eval x = u) (hu : SlAt Qb enc k w u ys) (hb : (xs.length + ys.length) * bsz k ≤ 140737488355328) (hB : B ≤ w.heap.size)
    (h : ∀ v' w', Own enc k e B w' v' (xs ++ ys) → Below B w w' → w.grownBy w' v.ownBlock → wpList Try.prog ops Q rest (a.put o.dst v') w') : wpList Try.prog ops Q (o :: rest) a w := by
  obtain ⟨ht, hkp, i0, z, hi, hz0, hz1, hz2, hzs⟩ := hE
  obtain ⟨p, cap, rfl, ⟨hcap, hnone⟩, hmax, hy⟩ := hu
  cases p with
  | none =>
    have hn : ys = [] := by
      cases ys with
      | nil => rfl
      | cons y r => obtain ⟨b, o, hp, _⟩ := hy (by simp); cases hp
    subst hn
    have hc := hnone rfl
    subst hc
    refine wpList_append_own_none hgd s x t ho B e i0 k ht hi v xs.length _ hs hown (by rw [hx]; rfl) ?_
    have := h v w (by rw [List.append_nil]; exact hown) (Below.refl _ _) ⟨rfl, rfl, rfl, Nat.le_refl _, fun _ _ _ => rfl⟩
    exact this
  | some ad =>
    refine wpList_append_own w hgd s x t ho B e i0 z k i0.bytes ht hi hz0 hz1 rfl hzs hkp v xs.length _ hs hown ad ys.length cap (ys.flatMap enc) hx (flat_length hk ys) ?_ ?_ ?_ (Nat.le_trans (Nat.mul_le_mul_left _ hz2) hb) hB ?_
    · intro j c hj
      have hne : ys ≠ [] := by intro e; subst e; simp at hj
      obtain ⟨b, o, hp, _, hcell⟩ := hy hne
      have hp' : ad = ⟨b, o, none⟩ := Option.some.inj hp
      rw [hp', Addr.add_lit]
      exact flat_cells hk ys o hcell j c hj
    · intro c hc
      obtain ⟨y, hy', hcy⟩ := List.mem_flatMap.1 hc
      exact h1 y hy' c hcy
    · unfold maxLen; unfold bsz at hb; split at hb <;> omega
    · intro v' w' h2 h3 _
      refine h v' w' ?_ ((Below.refl B w).grown h3 hB (fun j e => (hown.lt j e))) h3
      show w'.ownsRow B e k v' (xs ++ ys).length ((xs ++ ys).flatMap enc)
      rw [List.length_append, List.flatMap_append]; exact h2
/- A block of values, of the call's own. -/
def ty48 (B : Nat) (w : World) (b : Nat) : Prop := B ≤ b ∧ ∃ c fz, w.heap[b]? = some (.cells c 44 fz)
theorem own_ne {enc : Value → List Value} {B B' : Nat} {w : World} {v : Value} {hs : List Value} (h : Own enc 1 57 B w v hs) {b : Nat} (hb : ty48 B' w b) : some b ≠ v.ownBlock := fun e => by
  obtain ⟨c, fz, hc⟩ := Lib.ownsRow_kind h b e.symm
  obtain ⟨-, c', fz', hc'⟩ := hb
  rw [hc] at hc'
  cases hc'
theorem row_grown {B : Nat} {w w' : World} {v : Value} {r : Rw} {row : Option Nat} (h : RowIn (ty48 B w) w v r) (hg : w.grownBy w' row) (hne : ∀ b, ty48 B w b → some b ≠ row) : RowIn (ty48 B w') w' v r := by
  obtain ⟨p, cap, hv, hc, hm, hx⟩ := h
  refine ⟨p, cap, hv, hc, hm, fun hn => ?_⟩
  obtain ⟨b, o, hp, hQ, hj⟩ := hx hn
  have hb : w'.heap[b]? = w.heap[b]? := by
    obtain ⟨-, c, fz, hc⟩ := hQ.1
    exact hg.block b (lt_of_block hc) (hne b hQ.1)
  refine ⟨b, o, hp, ⟨?_, hQ.2⟩, fun j x hjx i u hu => ?_⟩
  · obtain ⟨hB, c, fz, hc⟩ := hQ.1
    exact ⟨hB, c, fz, hb.trans hc⟩
  · exact (World.cell?_of_block (a := ⟨b, o + j * 11 + i, none⟩) hb).trans (hj j x hjx i u hu)
theorem heads_grown {B : Nat} {w w' : World} {hs : List Value} {rs : List Rw} {row : Option Nat} (h : HeadsIn (ty48 B w) w hs rs) (hg : w.grownBy w' row) (hne : ∀ b, ty48 B w b → some b ≠ row) : HeadsIn (ty48 B w') w' hs rs := ⟨h.1, fun j x r h1 h2 => row_grown (h.2 j x r h1 h2) hg hne⟩
theorem ty_on {B : Nat} {w w' : World} {b : Nat} (h : ty48 B w b) (hb : Below w.heap.size w w') : ty48 B w' b := let ⟨hB, c, fz, hc⟩ := h; ⟨hB, c, fz, block_on hc hb⟩
theorem heads_ty_on {B : Nat} {w w' : World} {hs : List Value} {rs : List Rw} (h : HeadsIn (ty48 B w) w hs rs) (hb : Below w.heap.size w w') : HeadsIn (ty48 B w') w' hs rs := (h.on hb).imp (fun _ k => ty_on k hb)
theorem HeadsIn.snoc {Q : Nat → Prop} {w : World} {hs : List Value} {rs : List Rw} {h : Value} {r : Rw} (hh : HeadsIn Q w hs rs) (hr : RowIn Q w h r) : HeadsIn Q w (hs ++ [h]) (rs ++ [r]) := by
  refine ⟨by simp [hh.1], fun j x q h1 h2 => ?_⟩
  by_cases hlt : j < hs.length
  · rw [List.getElem?_append_left hlt] at h1
    rw [List.getElem?_append_left (by rw [← hh.1]; exact hlt)] at h2
    exact hh.2 j x q h1 h2
  · have hj : j = hs.length := by have := (List.getElem?_eq_some_iff.1 h1).1; simp at this; omega
    subst hj
    rw [List.getElem?_append_right (Nat.le_refl _)] at h1
    rw [hh.1, List.getElem?_append_right (Nat.le_refl _)] at h2
    simp at h1 h2
    subst h1 h2
    exact hr
/- One row more in a table of the call's own: the header's slice grows, and the table's second cell is set. -/
theorem row_more {wr W0 w1 : World} {T B3 B : Nat} {rv v' cv : Value} {hs : List Value} {rs : List Rw} {r : Rw} {R : Array Value} (hT : T < B3) (hBw : B ≤ wr.heap.size)
    (hsz : B3 ≤ wr.heap.size) (HK2 : wr.heap[T]? = some (.cells #[cv, rv] 25 (0, 0))) (HO : Own one 1 57 B3 wr rv hs) (HH : HeadsIn (ty48 B wr) wr hs rs) (hW0 : Below wr.heap.size wr W0) (hrow : W0.heap[wr.heap.size]? = some (.cells R 44 (0, 0))) (hR : R.toList = r.flatMap Vl.cells) (hr2 : r.length = 2)
    (HO1 : Own one 1 57 B3 w1 v' (hs ++ [.slice (some ⟨wr.heap.size, 0, none⟩) 2 2])) (HB1 : Below B3 W0 w1) (HG1 : W0.grownBy w1 rv.ownBlock) :
    B3 ≤ (w1.setCell ⟨T, 1, none⟩ v').heap.size ∧ (w1.setCell ⟨T, 1, none⟩ v').heap[T]? = some (.cells #[cv, v'] 25 (0, 0)) ∧ (∀ b, b < T → (w1.setCell ⟨T, 1, none⟩ v').heap[b]? = wr.heap[b]?) ∧
    Own one 1 57 B3 (w1.setCell ⟨T, 1, none⟩ v') v' (hs ++ [.slice (some ⟨wr.heap.size, 0, none⟩) 2 2]) ∧ HeadsIn (ty48 B (w1.setCell ⟨T, 1, none⟩ v')) (w1.setCell ⟨T, 1, none⟩ v') (hs ++ [.slice (some ⟨wr.heap.size, 0, none⟩) 2 2]) (rs ++ [r]) := by
  have K21 : w1.heap[T]? = some (.cells #[cv, rv] 25 (0, 0)) := (HB1.block T hT).trans (block_on HK2 hW0)
  have hne48 : ∀ b, ty48 B w1 b → b ≠ T := fun b hb e => by
    subst e
    obtain ⟨-, c, fz, hc⟩ := hb
    rw [K21] at hc
    cases hc
  refine ⟨?_, ?_, ?_, ?_, ?_⟩
  · rw [World.size_setCell]
    exact Nat.le_trans hsz (Nat.le_trans hW0.size HB1.size)
  · have := heap_setCell_same w1 T 1 _ 25 v' K21
    rw [this]
    rfl
  · intro b hb
    rw [heap_setCell_other _ _ _ _ (by show b ≠ T; omega), HB1.block b (by omega)]
    exact hW0.block b (by omega)
  · refine ⟨HO1.1, HO1.2.elim Or.inl (fun ⟨g, cap, cur, hv, hg, hblk, q⟩ => Or.inr ⟨g, cap, cur, hv, hg, ?_, q⟩)⟩
    rw [heap_setCell_other _ _ _ _ (by show g ≠ T; omega)]
    exact hblk
  · have h0 := heads_ty_on HH hW0
    have ho0 : Own one 1 57 B3 W0 rv hs := HO.on hW0
    have h1 := heads_grown h0 HG1 (fun b hb => own_ne ho0 hb)
    have r0 : RowIn (ty48 B W0) W0 (.slice (some ⟨wr.heap.size, 0, none⟩) 2 2) r := by
      refine SlAt.imp (lit_sl hrow vl_len hR hr2.symm (Nat.le_refl _) (by omega)) (fun b hb => ?_)
      subst hb
      exact ⟨hBw, _, _, hrow⟩
    have r1 := row_grown r0 HG1 (fun b hb => own_ne ho0 hb)
    refine ((h1.snoc r1).set hne48).imp (fun b hb => ?_)
    have hn := hne48 b hb
    obtain ⟨hB, c, fz, hc⟩ := hb
    exact ⟨hB, c, fz, (heap_setCell_other _ _ _ _ (by show b ≠ T; exact hn)).trans hc⟩
theorem alloc_blk2' (w : World) (x y : Obj) : ((w.alloc x).alloc y).heap[w.heap.size + 1]? = some y := by
  have h := alloc_block (w.alloc x) y
  rwa [World.size_alloc] at h
theorem alloc_blk1' (w : World) (x y : Obj) : ((w.alloc x).alloc y).heap[w.heap.size]? = some x := block_on (alloc_block w x) ((Below.refl _ _).alloc (Nat.le_refl _) y)
theorem ext_small (s : ByteArray) (i : Nat) : (s.extract i (i + 1)).size ≤ maxLen := by
  rw [ByteArray.size_extract]; unfold maxLen; omega
/- One header more, as a step of a region that draws its order. -/
theorem step_head {ops : Array Oper} {o : Oper} {a : Act} {w : World} {K : Act → World → Prop} {Q : Exit → Act → World → Prop} {E : Prop} {B g : Nat} {hs : List Value} {v hd : Value}
    (hgd : o.guard = none) (s x : Operand) (ho : o.op = .call { callee := .builtin .append, args := #[s, x], argTypes := #[23, 23] }) (hs' : a.eval s = v) (hx : a.eval x = .slice (some ⟨g, 0, none⟩) 1 1)
    (hown : Own one 1 57 B w v hs) (hblk : w.heap[g]? = some (.cells #[hd] 57 (0, 0))) (h1 : hd.oneCell' = true) (hn : hs.length ≤ 4095) (hB : B ≤ w.heap.size)
    (hK : ∀ v' w', Own one 1 57 B w' v' (hs ++ [hd]) → Below B w w' → w.grownBy w' v.ownBlock → K (a.put o.dst v') w') :
    if Region.wanted o (yielded ops a.tmps) = true then Oper.wp Try.prog o a w K Q else E := by
  have hw : Region.wanted o (yielded ops a.tmps) = true := by simp [Region.wanted, hgd]
  rw [if_pos hw]
  obtain ⟨ht, hkp, i0, z, hi, hz0, hz1, hz2, hzs⟩ := elem35
  refine wp_append_own w s x 23 ho B 57 i0 z 1 i0.bytes ht hi hz0 hz1 rfl hzs hkp v hs.length _ hs' hown ⟨g, 0, none⟩ 1 1 [hd] hx rfl ?_ ?_ ?_ ?_ hB ?_
  · intro j c hj
    have hj0 : j = 0 := by have := (List.getElem?_eq_some_iff.1 hj).1; simpa using this
    subst hj0
    simp at hj
    subst hj
    rw [Addr.add_lit, block_cell hblk]
    rfl
  · intro c hc
    simp at hc
    subst hc
    exact h1
  · unfold maxLen; omega
  · exact Nat.le_trans (Nat.mul_le_mul_left _ hz2) (small1 (by omega))
  · intro v' w' h2 h3 _
    refine hK v' w' ?_ ((Below.refl B w).grown h3 hB (fun j e => (hown.lt j e))) h3
    show w'.ownsRow B 57 1 v' (hs ++ [hd]).length ((hs ++ [hd]).flatMap one)
    rw [List.length_append, List.flatMap_append]; exact h2
theorem below_aa (w : World) (x y : Obj) : Below w.heap.size w ((w.alloc x).alloc y) := ((Below.refl _ w).alloc (Nat.le_refl _) x).alloc (by simp) y
theorem below_aad (w : World) (x y : Obj) : Below w.heap.size w ((w.alloc x).alloc y).drew := (below_aa w x y).drew
theorem below_daa (w : World) (x y : Obj) : Below w.heap.size w ((w.drew.alloc x).alloc y) := ((Below.refl _ w).drew.alloc (Nat.le_refl _) x).alloc (by simp) y
def vS (s : ByteArray) (i : Nat) : Vl := ⟨2, 0, s.extract i (i + 1), 0, 0, 0, 0, 0, 0, 0, 0, ext_small s i⟩
def vInt (n : Int) : Vl := ⟨1, n, ⟨#[]⟩, 0, 0, 0, 0, 0, 0, 0, 0, by decide⟩
def cK : Cl := ⟨⟨#[107]⟩, 2, by decide⟩
def cN : Cl := ⟨⟨#[110]⟩, 1, by decide⟩
def rowS (s : ByteArray) (ns : List Int) (i : Nat) : Rw := [vS s i, vInt ns[i]!]
def encI (n : Int) : List Value := [.int .i64 n]
set_option maxHeartbeats 4000000 in
set_option maxRecDepth 100000 in
theorem small_any {s : ByteArray} {ns : List Int} {u : Value} {w : World} (hu : SlAt any encI 1 w u ns) (hs : s.size = 3) (hn3 : ns.length = 3) :
    Calls Try.prog 30 #[.string s, u] w fun e w' => ∃ v', e = .returned v' ∧ TabIn (fun b => w.heap.size ≤ b) w' v' [cK, cN] ((List.range 3).map (rowS s ns)) ∧ Below w.heap.size w w' := by
  obtain ⟨p, cap, rfl, hcap, hmax, hx⟩ := hu
  have HX := hid hx
  clear hx hmax
  have HN := hid hn3
  rw [hn3] at hcap
  rw [hn3]
  clear hn3
  go_enter Try.func30, Try.ntmps30
  go_wp2
  generalize hO0 : (Obj.cells #[.slice none 0 0, .slice none 0 0] 25 (0, 0)) = O0 at *
  generalize hO1 : (Obj.cells #[.string ⟨#[107]⟩, .int .i64 2, .string ⟨#[110]⟩, .int .i64 1] 32 (0, 0)) = O1 at *
  generalize hO2 : (Obj.cells #[.slice (some ⟨w.heap.size + 1, 0, none⟩) 2 2, .slice none 0 0] 25 (0, 0)) = O2 at *
  have al := fun (W : World) (o : Obj) => (Below.refl W.heap.size W).alloc (Nat.le_refl _) o
  have K0 := hid (block_on (block_on (alloc_block w O0) (al _ O1)) (al _ O2))
  have K1 := hid (block_on (alloc_block (w.alloc O0) O1) (al _ O2))
  have K2 := hid (alloc_block ((w.alloc O0).alloc O1) O2)
  have HB0 := hid (below_on (below_on (al w O0) (al _ O1)) (al _ O2))
  clear al
  simp only [World.size_alloc] at K1 K2
  have hsz0 : w.heap.size + 1 + 1 + 1 ≤ (((w.alloc O0).alloc O1).alloc O2).heap.size := by simp
  generalize (((w.alloc O0).alloc O1).alloc O2) = W at *
  subst hO0 hO1 hO2
  go_loopw [6] (fun i wr => ∃ (k : Nat) (rv : Value) (hs : List Value), k ≤ 3 ∧ i = .int .i64 k ∧ hs.length = k ∧ w.heap.size + 1 + 1 + 1 ≤ wr.heap.size ∧ Hid (wr.heap[w.heap.size + 1 + 1]? = some (.cells #[.slice (some ⟨w.heap.size + 1, 0, none⟩) 2 2, rv] 25 (0, 0))) ∧ Hid (wr.heap[w.heap.size + 1]? = some (.cells #[.string ⟨#[107]⟩, .int .i64 2, .string ⟨#[110]⟩, .int .i64 1] 32 (0, 0))) ∧ Hid (wr.heap[w.heap.size]? = some (.cells #[.slice none 0 0, .slice none 0 0] 25 (0, 0))) ∧ Hid (Own one 1 57 (w.heap.size + 1 + 1 + 1) wr rv hs) ∧ Hid (HeadsIn (ty48 w.heap.size wr) wr hs ((List.range k).map (rowS s ns))) ∧ Hid (Below w.heap.size w wr)) (fun i _ => 3 - (intOf i).toNat)
  case atStart => exact ⟨0, _, [], by omega, rfl, rfl, hsz0, K2.out, K1.out, K0.out, Own.nil _ _ _ _ _, ⟨rfl, fun j h r h1 _ => by simp at h1⟩, HB0.out⟩
  case round =>
    obtain ⟨k, rv, hs', hk, rfl, hlen, hsz, HK2, HK1, HK0, HO, HH, HB⟩ := hrel
    have k2 := block_cell HK2.out
    have f2 := frozen_no HK2.out
    by_cases hlt : k < 3
    · have hkn : k < ns.length := by rw [HN.out]; omega
      obtain ⟨b, o, rfl, -, hj⟩ := HX.out (by intro e; subst e; simp at hkn)
      have hd : wr.cell? ⟨b, o + k, none⟩ = some (.int .i64 ns[k]!) := by
        have := ((hj k _ (get!_some hkn)).on HB.out) 0 _ rfl
        simpa using this
      clear hj
      have hlb := block_lt_of_cell hd
      obtain ⟨x, hx⟩ : ∃ x, ns[k]! = x := ⟨_, rfl⟩
      rw [hx] at hd
      have HXX := hid hx
      clear hx
      have l2 := lt_of_block HK2.out
      have g4 : (0 : Int) ≤ (k : Int) + 1 := by omega
      have hsb : ∀ (W : World) (code : BoundsCode), Sem.run Try.prog (Instr.sliceBound (.int .i64 (k : Int)) (k + 1) code) W = .ok k W := fun W code => by
        rw [run_sliceBound W .i64 (k : Int) (k + 1) code (by omega) (by omega)]; simp
      have hk3 : k = 0 ∨ k = 1 ∨ k = 2 := by omega
      clear hlt hk hkn
      have ka1 : ∀ (A : Obj) (j : Nat), (wr.alloc A).cell? ⟨w.heap.size + 1 + 1, j, none⟩ = (#[.slice (some ⟨w.heap.size + 1, 0, none⟩) 2 2, rv] : Array Value)[j]? := fun A j => block_cell (block_on HK2.out ((Below.refl _ wr).alloc (Nat.le_refl _) A)) j
      have ka2 : ∀ (A B : Obj) (j : Nat), ((wr.alloc A).alloc B).cell? ⟨w.heap.size + 1 + 1, j, none⟩ = (#[.slice (some ⟨w.heap.size + 1, 0, none⟩) 2 2, rv] : Array Value)[j]? := fun A B j => block_cell (block_on HK2.out (below_aa wr A B)) j
      have hw1 : IntKind.i64.wrap 1 = 1 := rfl
      have hw2 : IntKind.i64.wrap 2 = 2 := rfl
      have hw3 : IntKind.i64.wrap 3 = 3 := rfl
      rcases hk3 with rfl | rfl | rfl
      · rw [Nat.add_zero] at hd
        go_wp2_with fail
        go_region_law (refine step_head rfl (.tmp 18) (.tmp 31) rfl (by simp [Act.eval]) (by simp [Act.eval]; rfl) (HO.out.on (by first | exact below_aad _ _ _ | exact below_aa _ _ _ | exact below_daa _ _ _)) (by first | exact alloc_block _ _ | exact alloc_blk2' _ _ _) rfl (by omega) (by simp; omega) ?_; intro v' w1 hown hb1 hg1; have HO1 := hid hown; have HB1 := hid hb1; have HG1 := hid hg1; obtain ⟨g', cap', rfl⟩ := Joins.ownsRow_form hown (by simp); have K21 : Hid (w1.heap[w.heap.size + 1 + 1]? = _) := (hb1.block (w.heap.size + 1 + 1) (by omega)).trans (block_on HK2.out (by first | exact below_aad _ _ _ | exact below_aa _ _ _ | exact below_daa _ _ _)); have k21 := block_cell K21.out; have f21 := frozen_no K21.out; clear hown hb1 hg1)
        all_goals
          go_wp2
          go_roundw
          case rel =>
            have e1 : (hs' ++ [Value.slice (some ⟨wr.heap.size, 0, none⟩) 2 2]).length = 0 + 1 := by simp [hlen]
            rw [e1] at HO1
            obtain ⟨q0, q1, q2, q3, q4⟩ := row_more (T := w.heap.size + 1 + 1) (B := w.heap.size) (r := rowS s ns 0) (by omega) HB.out.size hsz HK2.out HO.out HH.out (by first | exact below_aad _ _ _ | exact below_aa _ _ _ | exact below_daa _ _ _) (by first | exact alloc_blk1' _ _ _) (by rw [rowS, HXX.out]; rfl) rfl HO1.out HB1.out HG1.out
            exact ⟨0 + 1, _, _, by omega, by go_num, e1, q0, q1, (q2 _ (by omega)).trans HK1.out, (q2 _ (by omega)).trans HK0.out, q3, by rw [List.range_succ, List.map_append]; exact q4, below_set (HB.out.trans (Below.trans ((by first | exact below_aad _ _ _ | exact below_aa _ _ _ | exact below_daa _ _ _ : Below wr.heap.size wr _).mono HB.out.size) (HB1.out.mono (by omega)))) (by omega)⟩
          case measure => simp [intOf]
      · go_wp2_with fail
        go_region_law (refine step_head rfl (.tmp 18) (.tmp 31) rfl (by simp [Act.eval]) (by simp [Act.eval]; rfl) (HO.out.on (by first | exact below_aad _ _ _ | exact below_aa _ _ _ | exact below_daa _ _ _)) (by first | exact alloc_block _ _ | exact alloc_blk2' _ _ _) rfl (by omega) (by simp; omega) ?_; intro v' w1 hown hb1 hg1; have HO1 := hid hown; have HB1 := hid hb1; have HG1 := hid hg1; obtain ⟨g', cap', rfl⟩ := Joins.ownsRow_form hown (by simp); have K21 : Hid (w1.heap[w.heap.size + 1 + 1]? = _) := (hb1.block (w.heap.size + 1 + 1) (by omega)).trans (block_on HK2.out (by first | exact below_aad _ _ _ | exact below_aa _ _ _ | exact below_daa _ _ _)); have k21 := block_cell K21.out; have f21 := frozen_no K21.out; clear hown hb1 hg1)
        all_goals
          go_wp2
          go_roundw
          case rel =>
            have e1 : (hs' ++ [Value.slice (some ⟨wr.heap.size, 0, none⟩) 2 2]).length = 1 + 1 := by simp [hlen]
            rw [e1] at HO1
            obtain ⟨q0, q1, q2, q3, q4⟩ := row_more (T := w.heap.size + 1 + 1) (B := w.heap.size) (r := rowS s ns 1) (by omega) HB.out.size hsz HK2.out HO.out HH.out (by first | exact below_aad _ _ _ | exact below_aa _ _ _ | exact below_daa _ _ _) (by first | exact alloc_blk1' _ _ _) (by rw [rowS, HXX.out]; rfl) rfl HO1.out HB1.out HG1.out
            exact ⟨1 + 1, _, _, by omega, by go_num, e1, q0, q1, (q2 _ (by omega)).trans HK1.out, (q2 _ (by omega)).trans HK0.out, q3, by rw [List.range_succ, List.map_append]; exact q4, below_set (HB.out.trans (Below.trans ((by first | exact below_aad _ _ _ | exact below_aa _ _ _ | exact below_daa _ _ _ : Below wr.heap.size wr _).mono HB.out.size) (HB1.out.mono (by omega)))) (by omega)⟩
          case measure => simp [intOf]
      · go_wp2_with fail
        go_region_law (refine step_head rfl (.tmp 18) (.tmp 31) rfl (by simp [Act.eval]) (by simp [Act.eval]; rfl) (HO.out.on (by first | exact below_aad _ _ _ | exact below_aa _ _ _ | exact below_daa _ _ _)) (by first | exact alloc_block _ _ | exact alloc_blk2' _ _ _) rfl (by omega) (by simp; omega) ?_; intro v' w1 hown hb1 hg1; have HO1 := hid hown; have HB1 := hid hb1; have HG1 := hid hg1; obtain ⟨g', cap', rfl⟩ := Joins.ownsRow_form hown (by simp); have K21 : Hid (w1.heap[w.heap.size + 1 + 1]? = _) := (hb1.block (w.heap.size + 1 + 1) (by omega)).trans (block_on HK2.out (by first | exact below_aad _ _ _ | exact below_aa _ _ _ | exact below_daa _ _ _)); have k21 := block_cell K21.out; have f21 := frozen_no K21.out; clear hown hb1 hg1)
        all_goals
          go_wp2
          go_roundw
          case rel =>
            have e1 : (hs' ++ [Value.slice (some ⟨wr.heap.size, 0, none⟩) 2 2]).length = 2 + 1 := by simp [hlen]
            rw [e1] at HO1
            obtain ⟨q0, q1, q2, q3, q4⟩ := row_more (T := w.heap.size + 1 + 1) (B := w.heap.size) (r := rowS s ns 2) (by omega) HB.out.size hsz HK2.out HO.out HH.out (by first | exact below_aad _ _ _ | exact below_aa _ _ _ | exact below_daa _ _ _) (by first | exact alloc_blk1' _ _ _) (by rw [rowS, HXX.out]; rfl) rfl HO1.out HB1.out HG1.out
            exact ⟨2 + 1, _, _, by omega, by go_num, e1, q0, q1, (q2 _ (by omega)).trans HK1.out, (q2 _ (by omega)).trans HK0.out, q3, by rw [List.range_succ, List.map_append]; exact q4, below_set (HB.out.trans (Below.trans ((by first | exact below_aad _ _ _ | exact below_aa _ _ _ | exact below_daa _ _ _ : Below wr.heap.size wr _).mono HB.out.size) (HB1.out.mono (by omega)))) (by omega)⟩
          case measure => simp [intOf]
    · have hk3 : k = 3 := by omega
      subst hk3
      have z2 := block_cell HK0.out
      have zf := frozen_no HK0.out
      obtain ⟨pr, capr, rfl, -, -, -⟩ := Own.sl HO.out one_len (small1 (by omega))
      rw [hlen] at k2 HK2 HO
      go_wp2
      have HT : TabIn (fun b => w.heap.size + 1 ≤ b) wr (.agg #[.slice (some ⟨w.heap.size + 1, 0, none⟩) 2 2, .slice pr 3 capr]) [cK, cN] ((List.range 3).map (rowS s ns)) := by
        refine ⟨_, _, rfl, SlAt.imp (lit_sl HK1.out cl_len rfl rfl (Nat.le_refl _) (by decide)) (fun b hb => by subst hb; exact Nat.le_refl _), hs', (Own.sl HO.out one_len (small1 (by omega))).imp (fun b hb => by omega), HH.out.imp (fun b hb => ?_)⟩
        obtain ⟨hB, c, fz, hc⟩ := hb
        rcases Nat.eq_or_lt_of_le hB with e | e
        · subst e
          rw [HK0.out] at hc
          cases hc
        · exact e
      refine bodyPost_ret (v := .agg #[.slice (some ⟨w.heap.size + 1, 0, none⟩) 2 2, .slice pr 3 capr]) ?_ rfl ⟨_, rfl, ?_, ?_⟩
      · have KF := Joins.block_setCell (i := 1) (Joins.block_setCell (i := 0) HK0.out (.slice (some ⟨w.heap.size + 1, 0, none⟩) 2 2)) (.slice pr 3 capr)
        generalize ((wr.setCell ⟨w.heap.size, 0, none⟩ (.slice (some ⟨w.heap.size + 1, 0, none⟩) 2 2)).setCell ⟨w.heap.size, 1, none⟩ (.slice pr 3 capr)) = WF at KF ⊢
        have kcf := block_cell KF
        clear KF z2 zf
        simp [results, Try.results30, go_sem, kcf]
      · exact (TabIn.set (fun b hb => by omega) (TabIn.set (fun b hb => by omega) HT)).imp (fun b hb => by omega)
      · exact below_set (below_set HB.out (Nat.le_refl _)) (Nat.le_refl _)
end Go.Proofs.Ytaccindmjaejdaa
namespace Go.Proofs.Ytaccindmjaejdaa
open Go.RowKit Go.Sort Go.Shelf

theorem row_low {w : World} {v : Value} {r : Rw} (h : RowAt w v r) : RowIn (fun b => b < w.heap.size) w v r := by
  obtain ⟨p, cap, hv, hc, hm, hx⟩ := h
  refine ⟨p, cap, hv, hc, hm, fun hne => ?_⟩
  obtain ⟨b, o, hp, hQ, hj⟩ := hx hne
  refine ⟨b, o, hp, ⟨?_, hQ.2⟩, hj⟩
  have h0 : 0 < r.length := List.length_pos_iff.2 hne
  exact block_lt_of_cell (hj 0 _ (get!_some h0) 0 _ rfl)
theorem heads_low {w : World} {hs : List Value} {rs : List Rw} (h : HeadsIn any w hs rs) : HeadsIn (fun b => b < w.heap.size) w hs rs := ⟨h.1, fun j x r h1 h2 => row_low (h.2 j x r h1 h2)⟩
theorem below_d (w : World) : Below w.heap.size w w.drew := (Below.refl _ w).drew
theorem below_ad (w : World) (x : Obj) : Below w.heap.size w (w.alloc x).drew := ((Below.refl _ w).alloc (Nat.le_refl _) x).drew
theorem made_d (w : World) : Own Cl.cells 2 32 w.heap.size (w.alloc (.cells #[] 32)).drew (.slice (some ⟨w.heap.size, 0, none⟩) 0 0) ([] : List Cl) := Own.made Cl.cells 2 32 w.heap.size w (Nat.le_refl _)
set_option maxRecDepth 100000 in
set_option maxHeartbeats 2000000 in
theorem rcanon_q {Q : Nat → Prop} {c r : Value} {cs : List Cl} {hs : List Value} {rs : List Rw} {w : World} (hq : ∀ b, Q b → b < w.heap.size) (hc : ColsAt w c cs) (hr : SlAt any one 1 w r hs) (hh : HeadsIn Q w hs rs) :
    Calls Try.prog 18 #[.agg #[c, r]] w fun e w' => ∃ c' r' hs', e = .returned (.agg #[c', r']) ∧ SlAt (fun b => w.heap.size ≤ b) Cl.cells 2 w' c' cs ∧ SlAt (fun b => w.heap.size ≤ b) one 1 w' r' hs' ∧ HeadsIn Q w' hs' (sortR rs) ∧ Below w.heap.size w w' := by
  have HC := hid hc
  have HR := hid hr
  have HH := hid hh
  obtain ⟨q, cap', rfl, -⟩ := hc
  obtain ⟨p, cap, rfl, -⟩ := hr
  clear hh
  generalize hnc : cs.length = nc at *
  generalize hnr : hs.length = nr at *
  have HNC := hid hnc
  clear hnc hnr
  go_enter Try.func18, Try.ntmps18
  go_wp2
  generalize hO0 : (Obj.cells #[.slice q nc cap', .slice p nr cap] 25 (0, 0)) = O0 at *
  generalize hO1 : (Obj.cells #[.slice none 0 0, .slice none 0 0] 25 (0, 0)) = O1 at *
  have HB := hid (below_aa w O0 O1)
  have K0 := hid (alloc_blk1' w O0 O1)
  have K1 := hid (alloc_blk2' w O0 O1)
  have hsz : w.heap.size + 1 + 1 ≤ ((w.alloc O0).alloc O1).heap.size := by simp
  generalize ((w.alloc O0).alloc O1) = W at *
  subst hO0 hO1
  have k0 := block_cell K0.out
  have l0 := lt_of_block K0.out
  have ka : ∀ (A : Obj) (j : Nat), (W.alloc A).cell? ⟨w.heap.size, j, none⟩ = (#[.slice q nc cap', .slice p nr cap] : Array Value)[j]? := fun A j => block_cell (block_on K0.out ((Below.refl _ W).alloc (Nat.le_refl _) A)) j
  have N1 : Hid True := trivial
  have N2 : Hid True := trivial
  have HBD := hid (SlAt.bound HC.out)
  have hWw : w.heap.size ≤ W.heap.size := HB.out.size
  go_region_law (first
    | (have N1' := N1; refine step_app elem45 cl_len (fun x _ => cl_cells x) rfl (.tmp 3) (.tmp 5) rfl (by simp [Act.eval]; try rfl) (by simp [Act.eval]; try rfl) (made_d W) (SlAt.on HC.out (below_on HB.out (below_ad W _))) (by simpa using HBD.out) (by simp) ?_; intro v2 w2 hown2 hb2 hg2; rw [List.nil_append] at hown2; obtain ⟨pc2, capc2, rfl, -⟩ := Own.sl hown2 cl_len HBD.out; rw [HNC.out] at hown2 ⊢; have HB2 := hid ((below_ad W _).trans hb2); have FC := hid (Own.sl hown2 cl_len HBD.out); have k02 := block_cell (block_on K0.out HB2.out); clear N2 hown2 hb2 hg2)
    | (have N2' := N2; refine step_call rfl (.tmp 8) 23 rfl (by simp [Act.eval]; try rfl) enters38 ?_; refine (sorted_any _ (Nat.le_refl _) (SlAt.on HR.out (by first | exact below_on HB.out (below_d _) | exact below_on HB.out (below_ad _ _))) (HeadsIn.on HH.out (by first | exact below_on HB.out (below_d _) | exact below_on HB.out (below_ad _ _)))).mono ?_; rintro e w1 ⟨v1, h1, rfl, hs1, hh1, hb1⟩; refine ⟨_, rfl, ?_⟩; obtain ⟨pr1, capr1, rfl, -⟩ := id hs1; have HS1 := hid hs1; have HH1 := hid hh1; have HBC := hid hb1; have HB1 : Hid (Below W.heap.size W w1) := (by first | exact below_on (below_d _) hb1 | exact below_on (below_ad _ _) hb1); have k01 := block_cell (block_on K0.out HB1.out); have l01 := lt_of_block (block_on K0.out HB1.out); clear N1 hs1 hh1 hb1)
    | (refine step_call rfl (.tmp 8) 23 rfl (by simp [Act.eval]; try rfl) enters38 ?_; refine (sorted_any _ (Nat.le_refl _) (SlAt.on HR.out (below_on HB.out HB2.out)) (HeadsIn.on HH.out (below_on HB.out HB2.out))).mono ?_; rintro e w1 ⟨v1, h1, rfl, hs1, hh1, hb1⟩; refine ⟨_, rfl, ?_⟩; obtain ⟨pr1, capr1, rfl, -⟩ := id hs1; have GC := hid (FC.out.on hb1); have GR := hid (hs1.imp (fun b hb => Nat.le_trans HB2.out.size hb)); have GH := hid hh1; have GB := hid (below_on HB2.out hb1); have KF := hid (block_on K1.out GB.out); have kf := block_cell KF.out; have ff := frozen_no KF.out; clear hs1 hh1 hb1)
    | (refine step_app elem45 cl_len (fun x _ => cl_cells x) rfl (.tmp 3) (.tmp 5) rfl (by simp [Act.eval]; try rfl) (by simp [Act.eval]; try rfl) (by first | exact (made_d W).on HBC.out | exact Own.made Cl.cells 2 32 W.heap.size w1 HB1.out.size) (SlAt.on HC.out (by first | exact below_on HB.out HB1.out | exact below_on HB.out (HB1.out.alloc HB1.out.size _))) (by simpa using HBD.out) (by first | exact HB1.out.size | (simp; exact Nat.le_trans HB1.out.size (Nat.le_succ _))) ?_; intro v2 w2 hown2 hb2 hg2; rw [List.nil_append] at hown2; obtain ⟨pc2, capc2, rfl, -⟩ := Own.sl hown2 cl_len HBD.out; rw [HNC.out] at hown2 ⊢; have GC := hid (Own.sl hown2 cl_len HBD.out); have GB : Hid (Below W.heap.size W w2) := (by first | exact HB1.out.trans hb2 | exact (HB1.out.alloc HB1.out.size _).trans hb2); have GH := hid (HeadsIn.onB (HeadsIn.on HH1.out (by first | exact Below.refl _ _ | exact (Below.refl _ _).alloc (Nat.le_refl _) _)) hb2 (fun b hb => Nat.lt_of_lt_of_le (hq b hb) hWw)); have GR : Hid (SlAt (fun b => W.heap.size ≤ b) one 1 w2 _ h1) := (by first | exact (SlAt.grown (HS1.out.on (Below.refl _ _)) (by decide) one_len hg2 (fun b hb hlt e => by simp [Value.ownBlock] at e; subst e; simp at hb)).imp (fun b hb => by simp at hb; omega) | exact (SlAt.grown ((SlAt.low HS1.out (by decide) one_len).on ((Below.refl _ _).alloc (Nat.le_refl _) _)) (by decide) one_len hg2 (fun b hb hlt e => by simp [Value.ownBlock] at e; omega)).imp (fun b hb => by simp at hb; omega)); have KF := hid (block_on K1.out GB.out); have kf := block_cell KF.out; have ff := frozen_no KF.out; clear hown2 hb2 hg2))
  all_goals
    go_wp2
    refine bodyPost_ret (v := .agg #[.slice pc2 nc capc2, .slice pr1 h1.length capr1]) ?_ rfl ⟨_, _, h1, rfl, ?_, ?_, ?_, ?_⟩
    · have KF2 := Joins.block_setCell (i := 1) (Joins.block_setCell (i := 0) KF.out (.slice pc2 nc capc2)) (.slice pr1 h1.length capr1)
      clear kf ff
      first
        | generalize ((w1.setCell ⟨w.heap.size + 1, 0, none⟩ (.slice pc2 nc capc2)).setCell ⟨w.heap.size + 1, 1, none⟩ (.slice pr1 h1.length capr1)) = WF at KF2 ⊢; have kcf := block_cell KF2; clear KF2; simp [results, Try.results18, go_sem, kcf]; done
        | generalize ((w2.setCell ⟨w.heap.size + 1, 0, none⟩ (.slice pc2 nc capc2)).setCell ⟨w.heap.size + 1, 1, none⟩ (.slice pr1 h1.length capr1)) = WF at KF2 ⊢; have kcf := block_cell KF2; clear KF2; simp [results, Try.results18, go_sem, kcf]; done
    · exact SlAt.imp (SlAt.set (fun b hb => by omega) (SlAt.set (fun b hb => by omega) GC.out)) (fun b hb => Nat.le_trans hWw hb)
    · exact SlAt.imp (SlAt.set (fun b hb => by omega) (SlAt.set (fun b hb => by omega) GR.out)) (fun b hb => Nat.le_trans hWw hb)
    · exact HeadsIn.set (fun b hb => by have := hq b hb; omega) (HeadsIn.set (fun b hb => by have := hq b hb; omega) GH.out)
    · exact below_set (below_set (below_on HB.out GB.out) (by omega)) (by omega)
theorem rcanon_any {v : Value} {cs : List Cl} {rs : List Rw} {w : World} (hv : TabAt w v cs rs) :
    Calls Try.prog 18 #[v] w fun e w' => ∃ v', e = .returned v' ∧ TabAt w' v' cs (sortR rs) ∧ Below w.heap.size w w' := by
  obtain ⟨c, r, rfl, hc, hs, hr, hh⟩ := hv
  refine (rcanon_q (fun b hb => hb) hc hr (heads_low hh)).mono ?_
  rintro e w' ⟨c', r', hs', rfl, h1, h2, h3, hb⟩
  exact ⟨_, rfl, ⟨c', r', rfl, h1.imp fun _ _ => trivial, hs', h2.imp fun _ _ => trivial, h3.imp fun _ _ => trivial⟩, hb⟩
end Go.Proofs.Ytaccindmjaejdaa
