/-
  What the statements' small (a table of columns k and n) returns.
  What the reference's Canon returns, for every table.
  PredHolds, walked.
  A named variable's block, read out of the world's shape; the wrap that hands the shape on.
  The wrap that hands the world's shape on, where the specification bears a condition of its own.
-/
import Derived.Test.YtcidijjbcebcbaaKH12
import Derived.Test.YtcidijjbcebcbaaKH16
import Derived.Test.YtcidijjbcebcbaaKH20
import Derived.Test.YtcidijjbcebcbaaKH22
import Derived.Lib.OwnKind
import Derived.Deep.RegionLaw
import Derived.SizedLaws
import Derived.ShapedOpen
import Derived.Deep.CondSized
namespace Go.Proofs.Ytcidijjbcebcbaa.TN
open Go.RowKit Go.Sort Go.Shelf

theorem app_all {ops : Array Oper} {rest : List Oper} {o : Oper} {a : Act} {Q : Exit → Act → World → Prop} {w : World} {α : Type} {enc : α → List Value} {k e t B : Nat} {Qb : Nat → Prop} {xs ys : List α} {v u : Value}
    (hE : Elem t e k) (hk : ∀ x, (enc x).length = k) (h1 : ∀ y ∈ ys, ∀ c ∈ enc y, c.oneCell' = true) (hgd : o.guard = none) (s x : Operand) (ho : o.op = .call { callee := .builtin .append, args := #[s, x], argTypes := #[t, t] })
    (hs : a.eval s = v) (hown : Own enc k e B w v xs) (hx : a.eval x = u) (hu : SlAt Qb enc k w u ys) (hb : (xs.length + ys.length) * bsz k ≤ 140737488355328) (hB : B ≤ w.heap.size)
    (h : ∀ v' w', Own enc k e B w' v' (xs ++ ys) → Below B w w' → w.grownBy w' v.ownBlock → wpList Try.prog ops Q rest (a.put o.dst v') w') : wpList Try.prog ops Q (o :: rest) a w := by
  obtain ⟨ht, hkp, i0, z, hi, hz0, hz1, hz2, hzs⟩ := hE
  obtain ⟨p, cap, rfl, ⟨hcap, hnone⟩, hmax, hy⟩ := hu
  cases p with
  | none =>
    have hn : ys = [] := by
      cases ys with
      | nil => rfl
      | cons y r => obtain ⟨b, o, hp, _⟩ := hy (by simp); cases hp
    subst hn
    have hc := hnone rfl
    subst hc
    refine wpList_append_own_none hgd s x t ho B e i0 k ht hi v xs.length _ hs hown (by rw [hx]; rfl) ?_
    have := h v w (by rw [List.append_nil]; exact hown) (Below.refl _ _) ⟨rfl, rfl, rfl, Nat.le_refl _, fun _ _ _ => rfl⟩
    exact this
  | some ad =>
    refine wpList_append_own w hgd s x t ho B e i0 z k i0.bytes ht hi hz0 hz1 rfl hzs hkp v xs.length _ hs hown ad ys.length cap (ys.flatMap enc) hx (flat_length hk ys) ?_ ?_ ?_ (Nat.le_trans (Nat.mul_le_mul_left _ hz2) hb) hB ?_
    · intro j c hj
      have hne : ys ≠ [] := by intro e; subst e; simp at hj
      obtain ⟨b, o, hp, _, hcell⟩ := hy hne
      have hp' : ad = ⟨b, o, none⟩ := Option.some.inj hp
      rw [hp', Addr.add_lit]
      exact flat_cells hk ys o hcell j c hj
    · intro c hc
      obtain ⟨y, hy', hcy⟩ := List.mem_flatMap.1 hc
      exact h1 y hy' c hcy
    · unfold maxLen; unfold bsz at hb; split at hb <;> omega
    · intro v' w' h2 h3 _
      refine h v' w' ?_ ((Below.refl B w).grown h3 hB (fun j e => (hown.lt j e))) h3
      show w'.ownsRow B e k v' (xs ++ ys).length ((xs ++ ys).flatMap enc)
      rw [List.length_append, List.flatMap_append]; exact h2
/- A block of values, of the call's own. -/
def ty48 (B : Nat) (w : World) (b : Nat) : Prop := B ≤ b ∧ ∃ c fz, w.heap[b]? = some (.cells c 39 fz)
theorem own_ne {enc : Value → List Value} {B B' : Nat} {w : World} {v : Value} {hs : List Value} (h : Own enc 1 33 B w v hs) {b : Nat} (hb : ty48 B' w b) : some b ≠ v.ownBlock := fun e => by
  obtain ⟨c, fz, hc⟩ := Lib.ownsRow_kind h b e.symm
  obtain ⟨-, c', fz', hc'⟩ := hb
  rw [hc] at hc'
  cases hc'
theorem row_grown {B : Nat} {w w' : World} {v : Value} {r : Rw} {row : Option Nat} (h : RowIn (ty48 B w) w v r) (hg : w.grownBy w' row) (hne : ∀ b, ty48 B w b → some b ≠ row) : RowIn (ty48 B w') w' v r := by
  obtain ⟨p, cap, hv, hc, hm, hx⟩ := h
  refine ⟨p, cap, hv, hc, hm, fun hn => ?_⟩
  obtain ⟨b, o, hp, hQ, hj⟩ := hx hn
  have hb : w'.heap[b]? = w.heap[b]? := by
    obtain ⟨-, c, fz, hc⟩ := hQ.1
    exact hg.block b (lt_of_block hc) (hne b hQ.1)
  refine ⟨b, o, hp, ⟨?_, hQ.2⟩, fun j x hjx i u hu => ?_⟩
  · obtain ⟨hB, c, fz, hc⟩ := hQ.1
    exact ⟨hB, c, fz, hb.trans hc⟩
  · exact (World.cell?_of_block (a := ⟨b, o + j * 11 + i, none⟩) hb).trans (hj j x hjx i u hu)
theorem heads_grown {B : Nat} {w w' : World} {hs : List Value} {rs : List Rw} {row : Option Nat} (h : HeadsIn (ty48 B w) w hs rs) (hg : w.grownBy w' row) (hne : ∀ b, ty48 B w b → some b ≠ row) : HeadsIn (ty48 B w') w' hs rs := ⟨h.1, fun j x r h1 h2 => row_grown (h.2 j x r h1 h2) hg hne⟩
theorem ty_on {B : Nat} {w w' : World} {b : Nat} (h : ty48 B w b) (hb : Below w.heap.size w w') : ty48 B w' b := let ⟨hB, c, fz, hc⟩ := h; ⟨hB, c, fz, block_on hc hb⟩
theorem heads_ty_on {B : Nat} {w w' : World} {hs : List Value} {rs : List Rw} (h : HeadsIn (ty48 B w) w hs rs) (hb : Below w.heap.size w w') : HeadsIn (ty48 B w') w' hs rs := (h.on hb).imp (fun _ k => ty_on k hb)
theorem HeadsIn.snoc {Q : Nat → Prop} {w : World} {hs : List Value} {rs : List Rw} {h : Value} {r : Rw} (hh : HeadsIn Q w hs rs) (hr : RowIn Q w h r) : HeadsIn Q w (hs ++ [h]) (rs ++ [r]) := by
  refine ⟨by simp [hh.1], fun j x q h1 h2 => ?_⟩
  by_cases hlt : j < hs.length
  · rw [List.getElem?_append_left hlt] at h1
    rw [List.getElem?_append_left (by rw [← hh.1]; exact hlt)] at h2
    exact hh.2 j x q h1 h2
  · have hj : j = hs.length := by have := (List.getElem?_eq_some_iff.1 h1).1; simp at this; omega
    subst hj
    rw [List.getElem?_append_right (Nat.le_refl _)] at h1
    rw [hh.1, List.getElem?_append_right (Nat.le_refl _)] at h2
    simp at h1 h2
    subst h1 h2
    exact hr
/- One row more in a table of the call's own: the header's slice grows, and the table's second cell is set. -/
theorem row_more {wr W0 w1 : World} {T B3 B : Nat} {rv v' cv : Value} {hs : List Value} {rs : List Rw} {r : Rw} {R : Array Value} (hT : T < B3) (hBw : B ≤ wr.heap.size)
    (hsz : B3 ≤ wr.heap.size) (HK2 : wr.heap[T]? = some (.cells #[cv, rv] 28 (0, 0))) (HO : Own one 1 33 B3 wr rv hs) (HH : HeadsIn (ty48 B wr) wr hs rs) (hW0 : Below wr.heap.size wr W0) (hrow : W0.heap[wr.heap.size]? = some (.cells R 39 (0, 0))) (hR : R.toList = r.flatMap Vl.cells) (hr2 : r.length = 2)
    (HO1 : Own one 1 33 B3 w1 v' (hs ++ [.slice (some ⟨wr.heap.size, 0, none⟩) 2 2])) (HB1 : Below B3 W0 w1) (HG1 : W0.grownBy w1 rv.ownBlock) :
    B3 ≤ (w1.setCell ⟨T, 1, none⟩ v').heap.size ∧ (w1.setCell ⟨T, 1, none⟩ v').heap[T]? = some (.cells #[cv, v'] 28 (0, 0)) ∧ (∀ b, b < T → (w1.setCell ⟨T, 1, none⟩ v').heap[b]? = wr.heap[b]?) ∧
    Own one 1 33 B3 (w1.setCell ⟨T, 1, none⟩ v') v' (hs ++ [.slice (some ⟨wr.heap.size, 0, none⟩) 2 2]) ∧ HeadsIn (ty48 B (w1.setCell ⟨T, 1, none⟩ v')) (w1.setCell ⟨T, 1, none⟩ v') (hs ++ [.slice (some ⟨wr.heap.size, 0, none⟩) 2 2]) (rs ++ [r]) := by
  have K21 : w1.heap[T]? = some (.cells #[cv, rv] 28 (0, 0)) := (HB1.block T hT).trans (block_on HK2 hW0)
  have hne48 : ∀ b, ty48 B w1 b → b ≠ T := fun b hb e => by
    subst e
    obtain ⟨-, c, fz, hc⟩ := hb
    rw [K21] at hc
    cases hc
  refine ⟨?_, ?_, ?_, ?_, ?_⟩
  · rw [World.size_setCell]
    exact Nat.le_trans hsz (Nat.le_trans hW0.size HB1.size)
  · have := heap_setCell_same w1 T 1 _ 28 v' K21
    rw [this]
    rfl
  · intro b hb
    rw [heap_setCell_other _ _ _ _ (by show b ≠ T; omega), HB1.block b (by omega)]
    exact hW0.block b (by omega)
  · refine ⟨HO1.1, HO1.2.elim Or.inl (fun ⟨g, cap, cur, hv, hg, hblk, q⟩ => Or.inr ⟨g, cap, cur, hv, hg, ?_, q⟩)⟩
    rw [heap_setCell_other _ _ _ _ (by show g ≠ T; omega)]
    exact hblk
  · have h0 := heads_ty_on HH hW0
    have ho0 : Own one 1 33 B3 W0 rv hs := HO.on hW0
    have h1 := heads_grown h0 HG1 (fun b hb => own_ne ho0 hb)
    have r0 : RowIn (ty48 B W0) W0 (.slice (some ⟨wr.heap.size, 0, none⟩) 2 2) r := by
      refine SlAt.imp (lit_sl hrow vl_len hR hr2.symm (Nat.le_refl _) (by omega)) (fun b hb => ?_)
      subst hb
      exact ⟨hBw, _, _, hrow⟩
    have r1 := row_grown r0 HG1 (fun b hb => own_ne ho0 hb)
    refine ((h1.snoc r1).set hne48).imp (fun b hb => ?_)
    have hn := hne48 b hb
    obtain ⟨hB, c, fz, hc⟩ := hb
    exact ⟨hB, c, fz, (heap_setCell_other _ _ _ _ (by show b ≠ T; exact hn)).trans hc⟩
theorem alloc_blk2' (w : World) (x y : Obj) : ((w.alloc x).alloc y).heap[w.heap.size + 1]? = some y := by
  have h := alloc_block (w.alloc x) y
  rwa [World.size_alloc] at h
theorem alloc_blk1' (w : World) (x y : Obj) : ((w.alloc x).alloc y).heap[w.heap.size]? = some x := block_on (alloc_block w x) ((Below.refl _ _).alloc (Nat.le_refl _) y)
theorem ext_small (s : ByteArray) (i : Nat) : (s.extract i (i + 1)).size ≤ maxLen := by
  rw [ByteArray.size_extract]; unfold maxLen; omega
/- One header more, as a step of a region that draws its order. -/
theorem step_head {ops : Array Oper} {o : Oper} {a : Act} {w : World} {K : Act → World → Prop} {Q : Exit → Act → World → Prop} {E : Prop} {B g : Nat} {hs : List Value} {v hd : Value}
    (hgd : o.guard = none) (s x : Operand) (ho : o.op = .call { callee := .builtin .append, args := #[s, x], argTypes := #[26, 26] }) (hs' : a.eval s = v) (hx : a.eval x = .slice (some ⟨g, 0, none⟩) 1 1)
    (hown : Own one 1 33 B w v hs) (hblk : w.heap[g]? = some (.cells #[hd] 33 (0, 0))) (h1 : hd.oneCell' = true) (hn : hs.length ≤ 4095) (hB : B ≤ w.heap.size)
    (hK : ∀ v' w', Own one 1 33 B w' v' (hs ++ [hd]) → Below B w w' → w.grownBy w' v.ownBlock → K (a.put o.dst v') w') :
    if Region.wanted o (yielded ops a.tmps) = true then Oper.wp Try.prog o a w K Q else E := by
  have hw : Region.wanted o (yielded ops a.tmps) = true := by simp [Region.wanted, hgd]
  rw [if_pos hw]
  obtain ⟨ht, hkp, i0, z, hi, hz0, hz1, hz2, hzs⟩ := elem35
  refine wp_append_own w s x 26 ho B 33 i0 z 1 i0.bytes ht hi hz0 hz1 rfl hzs hkp v hs.length _ hs' hown ⟨g, 0, none⟩ 1 1 [hd] hx rfl ?_ ?_ ?_ ?_ hB ?_
  · intro j c hj
    have hj0 : j = 0 := by have := (List.getElem?_eq_some_iff.1 hj).1; simpa using this
    subst hj0
    simp at hj
    subst hj
    rw [Addr.add_lit, block_cell hblk]
    rfl
  · intro c hc
    simp at hc
    subst hc
    exact h1
  · unfold maxLen; omega
  · exact Nat.le_trans (Nat.mul_le_mul_left _ hz2) (small1 (by omega))
  · intro v' w' h2 h3 _
    refine hK v' w' ?_ ((Below.refl B w).grown h3 hB (fun j e => (hown.lt j e))) h3
    show w'.ownsRow B 33 1 v' (hs ++ [hd]).length ((hs ++ [hd]).flatMap one)
    rw [List.length_append, List.flatMap_append]; exact h2
theorem below_aa (w : World) (x y : Obj) : Below w.heap.size w ((w.alloc x).alloc y) := ((Below.refl _ w).alloc (Nat.le_refl _) x).alloc (by simp) y
theorem below_aad (w : World) (x y : Obj) : Below w.heap.size w ((w.alloc x).alloc y).drew := (below_aa w x y).drew
theorem below_daa (w : World) (x y : Obj) : Below w.heap.size w ((w.drew.alloc x).alloc y) := ((Below.refl _ w).drew.alloc (Nat.le_refl _) x).alloc (by simp) y
def vS (s : ByteArray) (i : Nat) : Vl := ⟨2, 0, s.extract i (i + 1), 0, 0, 0, 0, 0, 0, 0, 0, ext_small s i⟩
def vInt (n : Int) : Vl := ⟨1, n, ⟨#[]⟩, 0, 0, 0, 0, 0, 0, 0, 0, by decide⟩
def cK : Cl := ⟨⟨#[107]⟩, 2, by decide⟩
def cN : Cl := ⟨⟨#[110]⟩, 1, by decide⟩
def rowS (s : ByteArray) (ns : List Int) (i : Nat) : Rw := [vS s i, vInt ns[i]!]
def encI (n : Int) : List Value := [.int .i64 n]
end Go.Proofs.Ytcidijjbcebcbaa.TN
namespace Go.Proofs.Ytcidijjbcebcbaa.TN
open Go.RowKit Go.Sort Go.Shelf

theorem row_low {w : World} {v : Value} {r : Rw} (h : RowAt w v r) : RowIn (fun b => b < w.heap.size) w v r := by
  obtain ⟨p, cap, hv, hc, hm, hx⟩ := h
  refine ⟨p, cap, hv, hc, hm, fun hne => ?_⟩
  obtain ⟨b, o, hp, hQ, hj⟩ := hx hne
  refine ⟨b, o, hp, ⟨?_, hQ.2⟩, hj⟩
  have h0 : 0 < r.length := List.length_pos_iff.2 hne
  exact block_lt_of_cell (hj 0 _ (get!_some h0) 0 _ rfl)
theorem heads_low {w : World} {hs : List Value} {rs : List Rw} (h : HeadsIn any w hs rs) : HeadsIn (fun b => b < w.heap.size) w hs rs := ⟨h.1, fun j x r h1 h2 => row_low (h.2 j x r h1 h2)⟩
theorem below_d (w : World) : Below w.heap.size w w.drew := (Below.refl _ w).drew
theorem below_ad (w : World) (x : Obj) : Below w.heap.size w (w.alloc x).drew := ((Below.refl _ w).alloc (Nat.le_refl _) x).drew
theorem made_d (w : World) : Own Cl.cells 2 61 w.heap.size (w.alloc (.cells #[] 61)).drew (.slice (some ⟨w.heap.size, 0, none⟩) 0 0) ([] : List Cl) := Own.made Cl.cells 2 61 w.heap.size w (Nat.le_refl _)
set_option maxRecDepth 100000 in
set_option maxHeartbeats 2000000 in
theorem rcanon_q {Q : Nat → Prop} {c r : Value} {cs : List Cl} {hs : List Value} {rs : List Rw} {w : World} (hq : ∀ b, Q b → b < w.heap.size) (hc : ColsAt w c cs) (hr : SlAt any one 1 w r hs) (hh : HeadsIn Q w hs rs) :
    Calls Try.prog 26 #[.agg #[c, r]] w fun e w' => ∃ c' r' hs', e = .returned (.agg #[c', r']) ∧ SlAt (fun b => w.heap.size ≤ b) Cl.cells 2 w' c' cs ∧ SlAt (fun b => w.heap.size ≤ b) one 1 w' r' hs' ∧ HeadsIn Q w' hs' (sortR rs) ∧ Below w.heap.size w w' := by
  have HC := hid hc
  have HR := hid hr
  have HH := hid hh
  obtain ⟨q, cap', rfl, -⟩ := hc
  obtain ⟨p, cap, rfl, -⟩ := hr
  clear hh
  generalize hnc : cs.length = nc at *
  generalize hnr : hs.length = nr at *
  have HNC := hid hnc
  clear hnc hnr
  go_enter Try.func26, Try.ntmps26
  go_wp2
  generalize hO0 : (Obj.cells #[.slice q nc cap', .slice p nr cap] 28 (0, 0)) = O0 at *
  generalize hO1 : (Obj.cells #[.slice none 0 0, .slice none 0 0] 28 (0, 0)) = O1 at *
  have HB := hid (below_aa w O0 O1)
  have K0 := hid (alloc_blk1' w O0 O1)
  have K1 := hid (alloc_blk2' w O0 O1)
  have hsz : w.heap.size + 1 + 1 ≤ ((w.alloc O0).alloc O1).heap.size := by simp
  generalize ((w.alloc O0).alloc O1) = W at *
  subst hO0 hO1
  have k0 := block_cell K0.out
  have l0 := lt_of_block K0.out
  have ka : ∀ (A : Obj) (j : Nat), (W.alloc A).cell? ⟨w.heap.size, j, none⟩ = (#[.slice q nc cap', .slice p nr cap] : Array Value)[j]? := fun A j => block_cell (block_on K0.out ((Below.refl _ W).alloc (Nat.le_refl _) A)) j
  have N1 : Hid True := trivial
  have N2 : Hid True := trivial
  have HBD := hid (SlAt.bound HC.out)
  have hWw : w.heap.size ≤ W.heap.size := HB.out.size
  go_region_law (first
    | (have N1' := N1; refine step_app elem45 cl_len (fun x _ => cl_cells x) rfl (.tmp 3) (.tmp 5) rfl (by simp [Act.eval]; try rfl) (by simp [Act.eval]; try rfl) (made_d W) (SlAt.on HC.out (below_on HB.out (below_ad W _))) (by simpa using HBD.out) (by simp) ?_; intro v2 w2 hown2 hb2 hg2; rw [List.nil_append] at hown2; obtain ⟨pc2, capc2, rfl, -⟩ := Own.sl hown2 cl_len HBD.out; rw [HNC.out] at hown2 ⊢; have HB2 := hid ((below_ad W _).trans hb2); have FC := hid (Own.sl hown2 cl_len HBD.out); have k02 := block_cell (block_on K0.out HB2.out); clear N2 hown2 hb2 hg2)
    | (have N2' := N2; refine step_call rfl (.tmp 8) 26 rfl (by simp [Act.eval]; try rfl) enters38 ?_; refine (sorted_any _ (Nat.le_refl _) (SlAt.on HR.out (by first | exact below_on HB.out (below_d _) | exact below_on HB.out (below_ad _ _))) (HeadsIn.on HH.out (by first | exact below_on HB.out (below_d _) | exact below_on HB.out (below_ad _ _)))).mono ?_; rintro e w1 ⟨v1, h1, rfl, hs1, hh1, hb1⟩; refine ⟨_, rfl, ?_⟩; obtain ⟨pr1, capr1, rfl, -⟩ := id hs1; have HS1 := hid hs1; have HH1 := hid hh1; have HBC := hid hb1; have HB1 : Hid (Below W.heap.size W w1) := (by first | exact below_on (below_d _) hb1 | exact below_on (below_ad _ _) hb1); have k01 := block_cell (block_on K0.out HB1.out); have l01 := lt_of_block (block_on K0.out HB1.out); clear N1 hs1 hh1 hb1)
    | (refine step_call rfl (.tmp 8) 26 rfl (by simp [Act.eval]; try rfl) enters38 ?_; refine (sorted_any _ (Nat.le_refl _) (SlAt.on HR.out (below_on HB.out HB2.out)) (HeadsIn.on HH.out (below_on HB.out HB2.out))).mono ?_; rintro e w1 ⟨v1, h1, rfl, hs1, hh1, hb1⟩; refine ⟨_, rfl, ?_⟩; obtain ⟨pr1, capr1, rfl, -⟩ := id hs1; have GC := hid (FC.out.on hb1); have GR := hid (hs1.imp (fun b hb => Nat.le_trans HB2.out.size hb)); have GH := hid hh1; have GB := hid (below_on HB2.out hb1); have KF := hid (block_on K1.out GB.out); have kf := block_cell KF.out; have ff := frozen_no KF.out; clear hs1 hh1 hb1)
    | (refine step_app elem45 cl_len (fun x _ => cl_cells x) rfl (.tmp 3) (.tmp 5) rfl (by simp [Act.eval]; try rfl) (by simp [Act.eval]; try rfl) (by first | exact (made_d W).on HBC.out | exact Own.made Cl.cells 2 61 W.heap.size w1 HB1.out.size) (SlAt.on HC.out (by first | exact below_on HB.out HB1.out | exact below_on HB.out (HB1.out.alloc HB1.out.size _))) (by simpa using HBD.out) (by first | exact HB1.out.size | (simp; exact Nat.le_trans HB1.out.size (Nat.le_succ _))) ?_; intro v2 w2 hown2 hb2 hg2; rw [List.nil_append] at hown2; obtain ⟨pc2, capc2, rfl, -⟩ := Own.sl hown2 cl_len HBD.out; rw [HNC.out] at hown2 ⊢; have GC := hid (Own.sl hown2 cl_len HBD.out); have GB : Hid (Below W.heap.size W w2) := (by first | exact HB1.out.trans hb2 | exact (HB1.out.alloc HB1.out.size _).trans hb2); have GH := hid (HeadsIn.onB (HeadsIn.on HH1.out (by first | exact Below.refl _ _ | exact (Below.refl _ _).alloc (Nat.le_refl _) _)) hb2 (fun b hb => Nat.lt_of_lt_of_le (hq b hb) hWw)); have GR : Hid (SlAt (fun b => W.heap.size ≤ b) one 1 w2 _ h1) := (by first | exact (SlAt.grown (HS1.out.on (Below.refl _ _)) (by decide) one_len hg2 (fun b hb hlt e => by simp [Value.ownBlock] at e; subst e; simp at hb)).imp (fun b hb => by simp at hb; omega) | exact (SlAt.grown ((SlAt.low HS1.out (by decide) one_len).on ((Below.refl _ _).alloc (Nat.le_refl _) _)) (by decide) one_len hg2 (fun b hb hlt e => by simp [Value.ownBlock] at e; omega)).imp (fun b hb => by simp at hb; omega)); have KF := hid (block_on K1.out GB.out); have kf := block_cell KF.out; have ff := frozen_no KF.out; clear hown2 hb2 hg2))
  all_goals
    go_wp2
    refine bodyPost_ret (v := .agg #[.slice pc2 nc capc2, .slice pr1 h1.length capr1]) ?_ rfl ⟨_, _, h1, rfl, ?_, ?_, ?_, ?_⟩
    · have KF2 := Joins.block_setCell (i := 1) (Joins.block_setCell (i := 0) KF.out (.slice pc2 nc capc2)) (.slice pr1 h1.length capr1)
      clear kf ff
      first
        | generalize ((w1.setCell ⟨w.heap.size + 1, 0, none⟩ (.slice pc2 nc capc2)).setCell ⟨w.heap.size + 1, 1, none⟩ (.slice pr1 h1.length capr1)) = WF at KF2 ⊢; have kcf := block_cell KF2; clear KF2; simp [results, Try.results26, go_sem, kcf]; done
        | generalize ((w2.setCell ⟨w.heap.size + 1, 0, none⟩ (.slice pc2 nc capc2)).setCell ⟨w.heap.size + 1, 1, none⟩ (.slice pr1 h1.length capr1)) = WF at KF2 ⊢; have kcf := block_cell KF2; clear KF2; simp [results, Try.results26, go_sem, kcf]; done
    · exact SlAt.imp (SlAt.set (fun b hb => by omega) (SlAt.set (fun b hb => by omega) GC.out)) (fun b hb => Nat.le_trans hWw hb)
    · exact SlAt.imp (SlAt.set (fun b hb => by omega) (SlAt.set (fun b hb => by omega) GR.out)) (fun b hb => Nat.le_trans hWw hb)
    · exact HeadsIn.set (fun b hb => by have := hq b hb; omega) (HeadsIn.set (fun b hb => by have := hq b hb; omega) GH.out)
    · exact below_set (below_set (below_on HB.out GB.out) (by omega)) (by omega)
theorem rcanon_any {v : Value} {cs : List Cl} {rs : List Rw} {w : World} (hv : TabAt w v cs rs) :
    Calls Try.prog 26 #[v] w fun e w' => ∃ v', e = .returned v' ∧ TabAt w' v' cs (sortR rs) ∧ Below w.heap.size w w' := by
  obtain ⟨c, r, rfl, hc, hs, hr, hh⟩ := hv
  refine (rcanon_q (fun b hb => hb) hc hr (heads_low hh)).mono ?_
  rintro e w' ⟨c', r', hs', rfl, h1, h2, h3, hb⟩
  exact ⟨_, rfl, ⟨c', r', rfl, h1.imp fun _ _ => trivial, hs', h2.imp fun _ _ => trivial, h3.imp fun _ _ => trivial⟩, hb⟩
end Go.Proofs.Ytcidijjbcebcbaa.TN
namespace Go.Proofs.Ytcidijjbcebcbaa.PD
open Go.RowKit Go.Joins Go.Sort

theorem qx_on {B : Nat} {w w' : World} {nv : Value} {qs : List Nx} (h : Qx (fun b => b < B) w nv qs) (hB : B ≤ w.heap.size) (hb : Below w.heap.size w w') : Qx (fun b => b < w'.heap.size) w' nv qs := by
  have hs := hb.size
  have h1 := h.kp (T := fun _ => False) (Kp.of hb) (fun _ _ => id)
  exact ⟨h1.sl.imp (fun b hb => by omega), fun q hq => ⟨(h1.each q hq).l.imp (fun b hb => by omega), (h1.each q hq).n.imp (fun b hb => by omega), (h1.each q hq).g.imp (fun b hb => by omega)⟩⟩
set_option maxRecDepth 100000 in
set_option maxHeartbeats 16000000 in
theorem predHolds_any {nv tv : Value} {i : Int} {qs : List Nx} {cs : List TN.Cl} {rs : List TN.Rw} {w : World} (hq : Qx (fun b => b < w.heap.size) w nv qs) (ht : TN.TabAt w tv cs rs) (hM : Mx w) (hz : ∀ r ∈ rs, Rsz r) (hvs : ∀ q ∈ qs, (St q.np.vs).size ≤ 1000000000000) : Calls Try.prog 3 #[.agg #[nv], .int .i64 i, tv] w fun e w' => e = .returned (.bool true) ∧ Below w.heap.size w w' := by
  obtain ⟨cv, rv, rfl, hcs, hs, hrs, hhs⟩ := ht
  obtain ⟨W, hW⟩ : ∃ W, W = (w.alloc (.cells #[nv] 24)).alloc (.cells #[cv, rv] 28) := ⟨_, rfl⟩
  have hb0 : Below w.heap.size w W := by rw [hW]; exact ((Below.refl _ _).alloc (Nat.le_refl _) _).alloc (by simp) _
  have k0 : W.heap[w.heap.size]? = some (.cells #[nv] 24 (0, 0)) := by rw [hW]; exact block_on (alloc_block w _) ((Below.refl _ _).alloc (Nat.le_refl _) _)
  have k1 : W.heap[w.heap.size + 1]? = some (.cells #[cv, rv] 28 (0, 0)) := by rw [hW]; have := alloc_block (w.alloc (.cells #[nv] 24)) (.cells #[cv, rv] 28); simpa using this
  have HB0 := hid hb0
  have HK0 := hid k0
  have HK1 := hid k1
  have HQ0 := hid (hq.kp (T := fun _ => False) (Kp.of hb0) (fun _ _ => id))
  have HC0 := hid ((TN.SlAt.low hcs (by decide) TN.cl_len).imp (fun b hb => hb.2) |>.on hb0)
  have HR0 := hid ((TN.SlAt.low hrs (by decide) TN.one_len).imp (fun b hb => hb.2) |>.on hb0)
  have HH0 := hid (TN.HeadsIn.on (TN.heads_low hhs) hb0)
  have HM0 := hid (hM.on hb0)
  have HW := hid hW
  have HP := hid (mx_pos hM)
  have HZ := hid hz
  have HV := hid hvs
  obtain ⟨pc, cc, rfl, -⟩ := hcs
  obtain ⟨pr0, cr0, rfl, -⟩ := hrs
  obtain ⟨pn0, cn0, rfl, -, -⟩ := hq.sl.form
  clear hb0 k0 k1 hW hhs hq hM hz hvs
  go_enter Try.func3, Try.ntmps3
  go_upto_region 1 with fail
  rw [← HW.out]
  clear HW
  go_upto_region 2 with (first
    | (go_at_call 16; refine (shown5_any W HM0.out).mono ?_; rintro e w1 ⟨rfl, hb⟩; have HB1 := hid (TN.below_on HB0.out hb); have hk1 := block_on HK0.out hb; have HK01 := hid hk1; have HK11 := hid (block_on HK1.out hb); have y2 := block_cell hk1 0; have HQ1 := hid (HQ0.out.kp (T := fun _ => False) (Kp.of hb) (fun _ _ => id)); have HC1 := hid (HC0.out.on hb); have HR1 := hid (HR0.out.on hb); have HH1 := hid (HH0.out.on hb); have HM1 := hid (HM0.out.on hb); clear hb hk1))
  go_upto_region 3 with (first
    | (go_at_call 17; refine (few5_q HQ1.out).mono ?_; rintro e w2 ⟨nv2, rfl, hq2, hb⟩; have hql : (qs.take 100).length ≤ 1000 := (by rw [List.length_take]; omega); have hvs2 : ∀ q ∈ qs.take 100, (St q.np.vs).size ≤ 1000000000000 := (fun q hq => HV.out q (List.mem_of_mem_take hq)); generalize qs.take 100 = qs2 at *; have HQL := hid hql; have HV2 := hid hvs2; obtain ⟨pn, cn, rfl, -, -⟩ := hq2.sl.form; have HB2 := hid (TN.below_on HB1.out hb); have hk2 := block_on HK01.out hb; have HK02 := hid hk2; have HK12 := hid (block_on HK11.out hb); have y4 := block_cell hk2 0; have y5 := block_frozen hk2 0; have HQ2 := hid hq2; have HC2 := hid (HC1.out.on hb); have HR2 := hid (HR1.out.on hb); have HH2 := hid (HH1.out.on hb); have HM2 := hid (HM1.out.on hb); clear hb hk2 y2 hq2 hql hvs2))
  have hkq : Kp (fun b => b = w.heap.size) w2 (w2.setCell ⟨w.heap.size, 0, none⟩ (.slice pn qs2.length cn)) := Kp.set (T := fun b => b = w.heap.size) rfl _
  have HKq : Hid ((w2.setCell ⟨w.heap.size, 0, none⟩ (.slice pn qs2.length cn)).heap[w.heap.size]? = some (.cells #[.slice pn qs2.length cn] 24 (0, 0))) := hid (block_set HK02.out 0 (.slice pn qs2.length cn))
  have HKt := hid (hkq.blk HK12.out (by omega))
  have HQ3 := hid (HQ2.out.kp hkq (fun b hb e => by omega))
  have HB3 := hid (HB2.out.trans (hkq.below HB2.out.size (fun b e => by omega)))
  have HM3 := hid (mx_kp HM2.out hkq (by have := HP.out; omega))
  have hT3 : TN.TabIn (fun b => b < w.heap.size) (w2.setCell ⟨w.heap.size, 0, none⟩ (.slice pn qs2.length cn)) (.agg #[.slice pc cs.length cc, .slice pr0 hs.length cr0]) cs rs := TN.TabIn.set (fun b hb => by omega) ⟨_, _, rfl, HC2.out, hs, HR2.out, HH2.out⟩
  clear hkq y4 y5 HQ2 HC2 HR2 HH2 HM2 HK02 HK12
  generalize w2.setCell ⟨w.heap.size, 0, none⟩ (.slice pn qs2.length cn) = w3 at *
  obtain ⟨c', r', e', hc3, hs3, hr3, hh3⟩ := hT3
  cases e'
  have HC3 := hid hc3
  have HR3 := hid hr3
  have HH3 := hid hh3
  have y0 := block_cell HKt.out
  clear hc3 hr3 hh3
  go_upto_region 4 with (first
    | (go_at_call 18; refine (TN.cut5_q HC3.out HR3.out HH3.out).mono ?_; rintro e w4 ⟨r2, rfl, hr2, hh2, hb⟩; have hrz : ∀ r ∈ rs.take 100, Rsz r := (fun r hr => HZ.out r (List.mem_of_mem_take hr)); have hr1 : (rs.take 100).length ≤ 100 := (by rw [List.length_take]; omega); generalize hs3.take 100 = hs4 at *; generalize rs.take 100 = rs4 at *; have HRz := hid hrz; have HLR := hid hr1; have HB4 := hid (TN.below_on HB3.out hb); have HKt4 := hid (block_on HKt.out hb); have HKq4 := hid (block_on HKq.out hb); have HQ4 := hid (HQ3.out.kp (T := fun _ => False) (Kp.of hb) (fun _ _ => id)); have HM4 := hid (HM3.out.on hb); have HC4 := hid (HC3.out.on hb); have HR4 := hid hr2; have HH4 := hid hh2; obtain ⟨pr, cr, rfl, -⟩ := hr2; have y4 := block_cell HKt4.out; have y5 := block_frozen HKt4.out; clear hb hh2 hr1 hrz y0))
  have KF := block_set (block_set HKt4.out 0 (.slice pc cs.length cc)) 1 (.slice pr hs4.length cr)
  have hkf : Kp (fun b => b = w.heap.size + 1) w4 ((w4.setCell ⟨w.heap.size + 1, 0, none⟩ (.slice pc cs.length cc)).setCell ⟨w.heap.size + 1, 1, none⟩ (.slice pr hs4.length cr)) := (Kp.set (T := fun b => b = w.heap.size + 1) rfl _).trans (Kp.set (T := fun b => b = w.heap.size + 1) rfl _)
  have HKt5 : Hid (((w4.setCell ⟨w.heap.size + 1, 0, none⟩ (.slice pc cs.length cc)).setCell ⟨w.heap.size + 1, 1, none⟩ (.slice pr hs4.length cr)).heap[w.heap.size + 1]? = some (.cells #[.slice pc cs.length cc, .slice pr hs4.length cr] 28 (0, 0))) := hid KF
  have HKq5 := hid (hkf.blk HKq4.out (by omega))
  have HQ5 := hid (HQ4.out.kp hkf (fun b hb e => by omega))
  have HB5 := hid (HB4.out.trans (hkf.below HB4.out.size (fun b e => by omega)))
  have HM5 := hid (mx_kp HM4.out hkf (by have := HP.out; omega))
  have hT5 : TN.TabIn (fun b => b < w.heap.size) ((w4.setCell ⟨w.heap.size + 1, 0, none⟩ (.slice pc cs.length cc)).setCell ⟨w.heap.size + 1, 1, none⟩ (.slice pr hs4.length cr)) (.agg #[.slice pc cs.length cc, .slice pr hs4.length cr]) cs rs4 := TN.TabIn.set (fun b hb => by omega) (TN.TabIn.set (fun b hb => by omega) ⟨_, _, rfl, HC4.out, hs4, HR4.out, HH4.out⟩)
  clear KF hkf y4 y5 HC4 HR4 HH4 HQ4 HM4
  generalize (w4.setCell ⟨w.heap.size + 1, 0, none⟩ (.slice pc cs.length cc)).setCell ⟨w.heap.size + 1, 1, none⟩ (.slice pr hs4.length cr) = w5 at *
  obtain ⟨c', r', e', hc5, hs5, hr5, hh5⟩ := hT5
  cases e'
  have HC5 := hid hc5
  have HR5 := hid hr5
  have HH5 := hid hh5
  have HLn := hid hh5.1
  obtain ⟨m, hm⟩ : ∃ m, hs4.length = m := ⟨_, rfl⟩
  have hm5 : hs5.length = m := by
    obtain ⟨p', c', e', -⟩ := id hr5
    injection e' with _ e2 _
    rw [← hm]; exact e2.symm
  have HMm := hid hm5
  rw [hm] at HR5 HKt5
  rw [hm]
  have mI : (m : Int) ≤ 1000000 := by have := HLR.out; have := HLn.out; omega
  clear hc5 hr5 hh5 hm5 hm
  have hrow0 : TN.RowAt w5 (.slice none 0 0) [] := TN.SlAt.nil _ _ _ _
  have HC1 : Hid (∀ W, Below w5.heap.size w5 W → ∀ rv r, TN.RowAt W rv r → Rsz r → Calls Try.prog 19 #[.agg #[.slice pn qs2.length cn], .int .i64 i, .slice pc cs.length cc, rv] W fun e w' => e = .returned (.bool (holdsX cs qs2 i r)) ∧ Below W.heap.size W w') := hid (fun W hb rv r hr hz => holds_any i (qx_on HQ5.out HB5.out.size hb) HQL.out ((HC5.out.on hb).imp (fun _ _ => trivial)) hr (HM5.out.on hb) (fun _ _ _ => hz))
  have HC2 : Hid (∀ W, Below w5.heap.size w5 W → ∀ rv r, TN.RowAt W rv r → Rsz r → Calls Try.prog 20 #[.agg #[.slice pn qs2.length cn], .int .i64 i, .slice pc cs.length cc, rv] W fun e w' => e = .returned (.bool (holdsX cs qs2 i r)) ∧ Below W.heap.size W w') := hid (fun W hb rv r hr hz => rholds15_any i (qx_on HQ5.out HB5.out.size hb) HQL.out ((HC5.out.on hb).imp (fun _ _ => trivial)) hr (fun _ _ _ => hz) HV2.out)
  go_upto_region 5 with fail
  go_loopw [8] (fun x wr => ∃ k : Nat, k ≤ m ∧ x = .int .i64 k ∧ Hid (Below w5.heap.size w5 wr)) (fun x _ => m - (intOf x).toNat)
  case atStart => exact ⟨0, by omega, rfl, Below.refl _ _⟩
  case round =>
    obtain ⟨k, hk, rfl, HBr⟩ := hrel
    have HTr := hid (block_on HKt5.out HBr.out)
    have HNr := hid (block_on HKq5.out HBr.out)
    have y1 := block_cell HTr.out
    by_cases hkm : k < m
    · have kI : (k : Int) < m := by omega
      have k0 : (0 : Int) ≤ k := by omega
      obtain ⟨h, hh⟩ : ∃ h, hs5[k]? = some h := ⟨_, List.getElem?_eq_getElem (by have := HMm.out; omega)⟩
      obtain ⟨r, hrr⟩ : ∃ r, rs4[k]? = some r := ⟨_, List.getElem?_eq_getElem (by have := HMm.out; have := HLn.out; omega)⟩
      have hrow := HH5.out.2 k h r hh hrr
      obtain ⟨bh, oh, cellh⟩ : ∃ b o, pr = some ⟨b, o, none⟩ ∧ wr.cell? ⟨b, o + k, none⟩ = some h := by
        obtain ⟨p', c', e', -, -, hx⟩ := HR5.out.on HBr.out
        injection e' with e1 _ _
        obtain ⟨b, o, hp, -, hj⟩ := hx (by intro e; rw [e] at hh; simp at hh)
        exact ⟨b, o, e1.trans hp, by have := hj k h hh 0 h rfl; simpa using this⟩
      obtain ⟨rfl, yh⟩ := cellh
      obtain ⟨ph, ch, eh, -⟩ := id hrow
      subst eh
      have HRow := hid hrow
      have HRr := hid (HRz.out r (List.mem_of_getElem? hrr))
      have HD1 := hid (fun W (hb : Below wr.heap.size wr W) => HC1.out W (TN.below_on HBr.out hb) _ r ((HRow.out.on (TN.below_on HBr.out hb)).imp (fun _ _ => trivial)) HRr.out)
      have HD2 := hid (fun W (hb : Below wr.heap.size wr W) => HC2.out W (TN.below_on HBr.out hb) _ r ((HRow.out.on (TN.below_on HBr.out hb)).imp (fun _ _ => trivial)) HRr.out)
      have yq := TN.regrown_cell (block_cell HNr.out 0)
      have yc := TN.regrown_cell (block_cell HTr.out 0)
      have yr := TN.regrown_cell (block_cell HTr.out 1)
      have yh' := TN.regrown_cell yh
      generalize holdsX cs qs2 i r = z at *
      have zz : (z != z) = false := by cases z <;> rfl
      clear hrow hrr hh
      go_upto_region 7 with fail
      refine wp_region_quiet_below (by kernel_rfl) (by kernel_rfl) ?_
      repeat (go_big_quiet_step (first
        | (go_at_call 19; exact Calls.regrown_of (HD1.out _ (below_regrown _ _ _)))
        | (go_at_call 20; exact Calls.regrown_of (HD2.out _ (below_regrown _ _ _)))))
      refine wpQuiet_nil ?_
      intro _ hw'
      obtain ⟨⟨dq, osq⟩, hw''⟩ := hw'
      subst hw''
      have HBg := hid (below_regrown wr dq osq)
      go_wp2_with fail
      go_roundw
      case rel => exact ⟨k + 1, by omega, by go_num, TN.below_on HBr.out HBg.out⟩
      case measure => simp [intOf]; omega
    · have hkm' : k = m := by omega
      have kI : ¬ (k : Int) < m := by omega
      have HD1 := hid (fun W (hb : Below wr.heap.size wr W) => HC1.out W (TN.below_on HBr.out hb) (.slice none 0 0) [] (TN.SlAt.nil _ _ _ _) (fun v hv => by cases hv))
      have HD2 := hid (fun W (hb : Below wr.heap.size wr W) => HC2.out W (TN.below_on HBr.out hb) (.slice none 0 0) [] (TN.SlAt.nil _ _ _ _) (fun v hv => by cases hv))
      have yq := TN.regrown_cell (block_cell HNr.out 0)
      have yc := TN.regrown_cell (block_cell HTr.out 0)
      generalize holdsX cs qs2 i [] = z at *
      have zz : (z == z) = true := by cases z <;> rfl
      go_upto_region 9 with fail
      refine wp_region_quiet_below (by kernel_rfl) (by kernel_rfl) ?_
      repeat (go_big_quiet_step (first
        | (go_at_call 19; exact Calls.regrown_of (HD1.out _ (below_regrown _ _ _)))
        | (go_at_call 20; exact Calls.regrown_of (HD2.out _ (below_regrown _ _ _)))))
      refine wpQuiet_nil ?_
      intro _ hw'
      obtain ⟨⟨dq, osq⟩, hw''⟩ := hw'
      subst hw''
      have HBg := hid (below_regrown wr dq osq)
      go_wp2_with fail
      go_ret
      exact ⟨by first | rfl | simp, HB5.out.trans ((TN.below_on HBr.out HBg.out).mono HB5.out.size)⟩
end Go.Proofs.Ytcidijjbcebcbaa.PD
namespace Go
section
variable {H : Type} {enc : TypeId × Value → H}
theorem Proofs.Ytcidijjbcebcbaa.returns_shaped {a : Assume} {C : Checked} {os : Os} {f : FuncId} {fn : Func} {s : ChangeSpec} {conds : List PathCond} {apart fresh handsOn again : Bool}
    (own : ownKnob C.prog.godebug = none) (started : os.Started) (noInit : C.prog.inits.idxOf? f = none) (hfn : C.prog.funcs[f]? = some fn)
    (witness : ∃ (w : World) (tape : Tape) (i : Input), w.os = os ∧ (w.forCall tape i).Shaped C.prog ∧ i.vars = [] ∧ Input.okWide C.prog (w.forCall tape i) .any w.heap.size f i ∧
      s.pre6 enc C.prog fn conds apart (w.forCall tape i).memory i.args ∧ a.holds C.prog (lone (Frame.enter C.prog f i.args .normal) [] (w.forCall tape i)))
    (contract : ∀ (W : World) (base : Nat) (args : Array Value) (ds gs : List (DataW H)) (before : List MemPlace), W.ShapedOpen C.prog →
      (∀ (j : Nat) t v, fn.params[j]? = some t → args[j]? = some v → Value.okWide C.prog W .any base t v) →
      DataW.Whole enc C.prog fn.params.toList s.vars apart W args.toList ds gs before →
      conds.all (PathCond.test C.prog ⟨fn.params.toList, ds, s.plain.varTypes C.prog, gs⟩) = true →
      (DataW.weightsEach C.prog (fn.params.toList ++ s.plain.varTypes C.prog) (ds ++ gs)).all (· ≤ reachBytes) = true →
      a.holds C.prog (lone (Frame.enter C.prog f args .normal) [] W) →
      Calls C.prog f args W fun e W' => ∃ v, e = .returned v ∧ s.post enc C.prog fn apart fresh handsOn again W args v W') :
    ReturnsInHanded a C os f .any (s.pre6 enc C.prog fn conds apart) (s.post enc C.prog fn apart fresh handsOn again) := by
  refine returnsInHanded_of_calls own started noInit witness ?_
  intro w tape i _ hsh _ hok hpre hholds
  obtain ⟨_, _, _, fn', hfn', _, _, _, _, hval⟩ := hok
  have e : fn' = fn := Option.some.inj (hfn'.symm.trans hfn)
  subst e
  obtain ⟨⟨ds, gs, before, hw, hc⟩, hz⟩ := hpre
  have hw' := DataW.Whole.of_heap (w' := w.forCall tape i) (by rfl) hw
  refine (contract (w.forCall tape i) w.heap.size i.args ds gs before hsh hval hw' hc (hz.weights hw) hholds).mono fun e W' ⟨v, he, hp⟩ => ?_
  subst he
  exact ChangeSpec.post_blind hp
end
end Go
namespace Go.Proofs.Ytcidijjbcebcbaa.PD
open Go.RowKit

set_option maxRecDepth 100000 in
theorem mx_of_shape {w : World} (h : w.ShapedOpen Try.prog) : Mx w := by
  obtain ⟨cs, hh, hs, hr⟩ := h.1 0 #[.int .i64 0] 3 (of_decide_eq_true (by kernel_rfl)) (by kernel_rfl)
  obtain ⟨ts, hts, _, hall⟩ := hr (by kernel_rfl)
  have hc : Try.prog.cellTypes Try.prog.depth 3 = some [3] := by kernel_rfl
  rw [hc] at hts
  cases hts
  have h1 : 0 < cs.size := by rw [hs]; decide
  obtain ⟨u, hu, hok⟩ := hall 0 cs[0] (Array.getElem?_eq_getElem h1)
  simp at hu
  subst hu
  unfold Cell.ok at hok
  rw [Try.underlying3] at hok
  generalize hv : cs[0] = v at hok
  cases v <;> try exact hok.elim
  rename_i k n
  obtain ⟨rfl, -⟩ := hok
  exact ⟨n, by simp [World.cell?, hh, h1, hv]⟩
end Go.Proofs.Ytcidijjbcebcbaa.PD
namespace Go
section
variable {H : Type} {enc : TypeId × Value → H}
theorem Proofs.Ytcidijjbcebcbaa.returns_shaped_cond {a : Assume} {C : Checked} {os : Os} {f : FuncId} {fn : Func} {s : OpenSpec} {k : (H : Type) → List (DataW H) → Bool} (hk : s.cond = some k) {F : Stop.Interp} {conds : List PathCond} {apart fresh handsOn again : Bool}
    (own : ownKnob C.prog.godebug = none) (started : os.Started) (noInit : C.prog.inits.idxOf? f = none) (hfn : C.prog.funcs[f]? = some fn)
    (witness : ∃ (w : World) (tape : Tape) (i : Input), w.os = os ∧ (w.forCall tape i).Shaped C.prog ∧ i.vars = [] ∧ Input.okWide C.prog (w.forCall tape i) .any w.heap.size f i ∧
      s.pre6 enc C.prog fn conds apart (w.forCall tape i).memory i.args ∧ a.holds C.prog (lone (Frame.enter C.prog f i.args .normal) [] (w.forCall tape i)))
    (contract : ∀ (W : World) (base : Nat) (args : Array Value) (ds gs : List (DataW H)) (before : List MemPlace), W.ShapedOpen C.prog →
      (∀ (j : Nat) t v, fn.params[j]? = some t → args[j]? = some v → Value.okWide C.prog W .any base t v) →
      DataW.Whole enc C.prog fn.params.toList s.vars apart W args.toList ds gs before → k H (ds ++ gs) = true →
      (DataW.weightsEach C.prog (fn.params.toList ++ s.bare.plain.varTypes C.prog) (ds ++ gs)).all (· ≤ reachBytes) = true →
      Calls C.prog f args W fun e W' => ∃ v, e = .returned v ∧ (s.at F).post enc C.prog fn apart fresh handsOn again W args v W') :
    ReturnsInHanded a C os f .any (s.pre6 enc C.prog fn conds apart) ((s.at F).post enc C.prog fn apart fresh handsOn again) := by
  refine returnsInHanded_of_calls own started noInit witness ?_
  intro w tape i _ hsh _ hok hpre _
  obtain ⟨_, _, _, fn2, hfn2, _, _, _, _, hval⟩ := hok
  obtain rfl : fn2 = fn := Option.some.inj (hfn2.symm.trans hfn)
  obtain ⟨ds, gs, before, hw, -, hkk⟩ := (OpenSpec.pre_some hk conds apart _ _).1 hpre.1
  refine (contract (w.forCall tape i) w.heap.size i.args ds gs before hsh hval (DataW.Whole.of_heap (w' := w.forCall tape i) (by rfl) hw) hkk (hpre.2.weights hw)).mono ?_
  rintro e W' ⟨v, rfl, hp⟩
  exact ChangeSpec.post_blind hp
end
end Go
namespace Go.Proofs.Ytcidijjbcebcbaa.PD
open Go.RowKit

theorem shaped_open {w : World} (h : w.ShapedOpen Try.prog) : Mx w := mx_of_shape h
end Go.Proofs.Ytcidijjbcebcbaa.PD
