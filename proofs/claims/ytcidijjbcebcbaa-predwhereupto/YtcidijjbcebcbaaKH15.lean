/-
  The nodes that a node stands on, all of them.
  An append onto a row of one's own, within a region that is walked in order.
  Print's writer says words.
  Two rows of rows in canonical order, merged: the canonical order of both.
  What the reference's Cols and Check return, for all columns and tables.
  What the reference's Check returns, for every table.
  What the statements' cut (the first rows of a table) returns.
  What table.pick returns, for values and for columns.
-/
import Derived.Test.YtcidijjbcebcbaaKH02
import Derived.Test.YtcidijjbcebcbaaKH10
import Derived.Test.YtcidijjbcebcbaaKH11
import Derived.Test.YtcidijjbcebcbaaKH12
import Derived.Test.YtcidijjbcebcbaaKH14
import Derived.Laws.MakeOwn
import Derived.Laws.IdiomCopy
namespace Go.Proofs.Ytcidijjbcebcbaa.PD
open Go.RowKit Go.Joins

/- What 'needed' leaves: the node itself, and with each those that it stands on, above a place. -/
structure Need (qs : List Nx) (i : Nat) (k : Nat) (nl : List Bool) : Prop where
  len : nl.length = i + 1
  top : hsAt nl (i : Int) = true
  down : ∀ a, k ≤ a → a ≤ i → hsAt nl (a : Int) = true → ∀ q, qs[a]? = some q → ∀ e ∈ bel q a, hsAt nl e = true
theorem hsAt_setI {hs : List Bool} {a : Nat} {e : Int} {r : Bool} (ha : a < hs.length) (he : 0 ≤ e) : hsAt (hs.set a r) e = if e = (a : Int) then r else hsAt hs e := by
  obtain ⟨b, rfl⟩ : ∃ b : Nat, e = b := ⟨e.toNat, by omega⟩
  rw [hsAt_set ha]
  by_cases h : b = a
  · subst h; simp
  · rw [if_neg h, if_neg (by omega)]
theorem Need.set {qs : List Nx} {i k : Nat} {nl : List Bool} (h : Need qs i k nl) {a : Nat} (ha : a < k) (hi : a ≤ i) : Need qs i k (nl.set a true) := by
  have hl : a < nl.length := by rw [h.len]; omega
  refine ⟨by rw [List.length_set]; exact h.len, ?_, fun b hb hbi ht q hq e he => ?_⟩
  · by_cases e : i = a
    · rw [hsAt_set hl, if_pos e]
    · rw [hsAt_set hl, if_neg e]; exact h.top
  rw [hsAt_set hl, if_neg (by omega)] at ht
  rw [hsAt_setI hl (bel_mem he).1]
  split
  · rfl
  · exact h.down b hb hbi ht q hq e he
def NdP (qs : List Nx) (i : Nat) (w : World) (x : Ending) (w' : World) : Prop := ∃ nd nl, x = .returned (slB nd (i + 1)) ∧ w.heap.size ≤ nd ∧ Hd w' nd nl ∧ Need qs i 0 nl ∧ Below w.heap.size w w'
theorem make_bools (n : Nat) : (List.replicate n false).map Value.bool = List.replicate n (Value.bool false) := by simp
theorem info_bool : (Try.prog.info? 4).map (fun i => (i.zero, i.size, i.bytes)) = some (some (.bool false), 1, 1) := by kernel_rfl
theorem make_bs (n : Nat) (hn : n ≤ 1000) (W : World) : (Instr.makeSlice 80 (.int .i64 ((n : Int) + 1)) (.int .i64 ((n : Int) + 1))).run Try.prog W = .ok (slB W.heap.size (n + 1)) (W.alloc (.cells (Array.replicate (n + 1) (Value.bool false)) 4)) := by
  obtain ⟨i, hi, h0, h1, h2⟩ := info_parts info_bool
  have h := run_make W 80 4 i _ Try.underlying80 hi h0 .i64 .i64 ((n : Int) + 1) ((n : Int) + 1) (by omega) (Int.le_refl _) (by rw [h2]; omega) (by omega)
  rw [h, h1, show ((n : Int) + 1).toNat = n + 1 by omega, Nat.mul_one]
  show Result.ok _ (W.alloc (.cells (madeCells #[.bool false] (n + 1)) 4)) = _
  rw [TN.made_one, List.toArray_replicate]
set_option maxRecDepth 100000 in
set_option maxHeartbeats 4000000 in
theorem needed_any {i : Nat} {nv : Value} {qs : List Nx} {w : World} (hq : Qx (fun b => b < w.heap.size) w nv qs) (hi : i < qs.length) (hs : i < 1000) : Calls Try.prog 76 #[nv, .int .i64 (i : Int)] w (NdP qs i w) := by
  have hmk := make_bs i (by omega)
  obtain ⟨q0, hq0⟩ : ∃ q0, qs[i]? = some q0 := ⟨_, List.getElem?_eq_getElem hi⟩
  obtain ⟨p, c, rfl, hc1, hc2⟩ := hq.sl.form
  obtain ⟨g, o, rfl, hg, -⟩ := hq.sl.at hq0
  unfold maxLen at hc2
  obtain ⟨m, hm⟩ : ∃ m, qs.length = m := ⟨_, rfl⟩
  have HM := hid hm
  rw [hm] at hi hc1
  have HQ := hid hq
  rw [hm] at HQ
  have i1 : (i : Int) + 1 ≤ 1000 := by omega
  have i2 : (0 : Int) ≤ (i : Int) + 1 := by omega
  have i3 : (i : Int) < (m : Int) := by omega
  have i0 : (0 : Int) ≤ (i : Int) := by omega
  have hW1 : Hd (w.alloc (.cells (Array.replicate (i + 1) (Value.bool false)) 4)) w.heap.size (List.replicate (i + 1) false) := by
    unfold Hd; rw [make_bools, List.toArray_replicate]; exact alloc_block w _
  have HB1 : Hid (Below w.heap.size w (w.alloc (.cells (Array.replicate (i + 1) (Value.bool false)) 4))) := (Below.refl _ _).alloc (Nat.le_refl _) _
  have y1 := hW1.cell (a := i) (by rw [List.length_replicate]; omega)
  have z1 := hW1.frozen i
  have HH := hid (hW1.set i true)
  have hmi : (i : Nat) < (List.replicate (i + 1) false).length := by rw [List.length_replicate]; omega
  have HN : Hid (Need qs i (i + 1) ((List.replicate (i + 1) false).set i true)) := ⟨by rw [List.length_set, List.length_replicate], by rw [hsAt_set hmi, if_pos rfl], fun a h1 h2 => by omega⟩
  clear hq hc1 hq0 hm hi hW1 hmi
  go_enter Try.func76, Try.ntmps76
  rw [HM.out]
  go_upto_region 2 with fail
  generalize w.alloc (.cells (Array.replicate (i + 1) (Value.bool false)) 4) = W1 at *
  go_upto_region 4 with fail
  have HB2 : Hid (Kp (fun k => k = w.heap.size) W1 (W1.setCell ⟨w.heap.size, i, none⟩ (.bool true))) := Kp.set (T := fun k => k = w.heap.size) rfl _
  have HKw : Hid (∀ W, Kp (fun k => k = w.heap.size) W1 W → Below w.heap.size w W) := fun W hk => HB1.out.trans (hk.below HB1.out.size (fun k e => by omega))
  have HKq : Hid (∀ W, Kp (fun k => k = w.heap.size) W1 W → Qx (fun b => b < w.heap.size) W (.slice (some ⟨g, o, none⟩) m c) qs) := fun W hk => ⟨HQ.out.sl.kp (Kp.of (HKw.out W hk)) (T := fun _ => False) (fun _ _ => id), fun q hq => (HQ.out.each q hq).kp (Kp.of (HKw.out W hk)) (T := fun _ => False) (fun _ _ => id)⟩
  clear y1 z1
  generalize W1.setCell ⟨w.heap.size, i, none⟩ (.bool true) = W2 at *
  generalize hnd : w.heap.size = nd at *
  go_loopw [6] (fun x wr => ∃ k : Nat, k ≤ i + 1 ∧ x = .int .i64 ((k : Int) - 1) ∧ Hid (Kp (fun k => k = nd) W1 wr) ∧ Hid (∃ nl, Hd wr nd nl ∧ Need qs i k nl)) (fun x _ => (intOf x + 1).toNat)
  case atStart => exact ⟨i + 1, by omega, by go_num, HB2.out, _, HH.out, HN.out⟩
  case round =>
    obtain ⟨k, hk, rfl, HK, hHs⟩ := hrel
    obtain ⟨nl, hH, hN⟩ := hHs.out
    clear hHs
    cases k with
    | zero =>
      go_wp2_with fail
      go_ret
      exact ⟨nd, nl, rfl, by omega, hH, hN, by rw [hnd]; exact HKw.out _ HK.out⟩
    | succ k =>
      rw [show ((k + 1 : Nat) : Int) - 1 = (k : Int) by omega]
      have hki : k ≤ i := by omega
      have kI : (k : Int) < (i : Int) + 1 := by omega
      have km : (k : Int) < (m : Int) := by omega
      have k0 : (0 : Int) ≤ (k : Int) := by omega
      have yk := hH.cell (a := k) (by rw [hN.len]; omega)
      have HHr := hid hH
      have HNr := hid hN
      have HKi := hid hki
      cases hb : hsAt nl (k : Int) with
      | false =>
        rw [hb] at yk
        have HF := hid hb
        clear hH hN hb hki hk
        go_wp2_with fail
        go_roundw
        case rel =>
          refine ⟨k, by have := HKi.out; omega, by go_num, HK.out, nl, HHr.out, HNr.out.len, HNr.out.top, fun a h1 h2 h3 q hq e he => ?_⟩
          by_cases ea : a = k
          · subst ea; rw [HF.out] at h3; cases h3
          · exact HNr.out.down a (by omega) h2 h3 q hq e he
        case measure => simp [intOf]
      | true =>
        rw [hb] at yk
        obtain ⟨q, hq⟩ : ∃ q, qs[k]? = some q := ⟨_, List.getElem?_eq_getElem (by have := HM.out; omega)⟩
        have hQr := HKq.out _ HK.out
        obtain ⟨g', o', eg, hg', hc⟩ := hQr.sl.at hq
        cases eg
        have HR : Hid (wr.rangeAt g (o + k * 19) q.cells) := fun j u hj => hc j u hj
        have hql := (hQr.each q (List.mem_of_getElem? hq)).l
        have HBl : Hid (Calls Try.prog 104 #[.agg q.cells.toArray, .int .i64 (k : Int)] wr fun x w' => BelP q k x ∧ Below wr.heap.size wr w') := below_any hql
        have HSl : Hid (∀ rv, (rv = q.lv ∧ bel q k = q.np.l) ∨ (rv = .slice none 0 0 ∧ bel q k = []) → SlAt (fun b => b ≠ nd) int1 1 wr rv (bel q k)) := by
          rintro rv (⟨rfl, h⟩ | ⟨rfl, h⟩)
          · rw [h]; exact hql.imp (fun b hb => by omega)
          · rw [h]; exact ⟨none, 0, rfl, ⟨Nat.le_refl _, by unfold maxLen; omega⟩, fun hne => absurd rfl hne⟩
        have HX := hid hq
        clear hH hN hb hki hk hq hQr hg' hc hql
        go_upto_region 8 with (first
          | (refine wpList_load_mid rfl 51 _ rfl g (o + k * 19) (by simp [Act.eval]) q.cells _ HR.out Try.underlying51 rfl size_node ?_)
          | (go_at_call 104; refine HBl.out.mono ?_; rintro e w5 ⟨hb, hbw⟩; obtain ⟨rv, rfl, hv⟩ := hb; replace hv := HSl.out _ hv; obtain ⟨p5, c5, rfl, h51, h52⟩ := id hv.form; have HV5 := hid (hv.on hbw); have HK5 := hid (HK.out.trans (Kp.of hbw)); have HH5 := hid (HHr.out.on hbw); clear hv hbw))
        obtain ⟨bl, hbl⟩ : ∃ bl, bl = bel q k := ⟨_, rfl⟩
        have HBL := hid hbl
        rw [← hbl] at HV5 h51
        rw [← hbl]
        obtain ⟨bn, hbn⟩ : ∃ bn, bl.length = bn := ⟨_, rfl⟩
        have HBN := hid hbn
        rw [hbn] at HV5 h51
        rw [hbn]
        unfold maxLen at h52
        have bI : (bn : Int) ≤ 9223372036854775807 := by omega
        clear hbl hbn h51 h52 HSl HBl HR yk
        go_loopw [31, 8] (fun x _ wi => ∃ j : Nat, j ≤ bn ∧ x = .int .i64 j ∧ Hid (Kp (fun k => k = nd) W1 wi) ∧ Hid (Kp (fun k => k = nd) w5 wi) ∧ Hid (∃ nl', Hd wi nd nl' ∧ Need qs i (k + 1) nl' ∧ ∀ (j' : Nat) e, j' < j → bl[j']? = some e → hsAt nl' e = true)) (fun x _ _ => bn - (intOf x).toNat)
        case atStart => exact ⟨0, by omega, rfl, HK5.out, Kp.refl _ _, nl, HH5.out, HNr.out, fun j' e h => absurd h (Nat.not_lt_zero _)⟩
        case round =>
          obtain ⟨j, hj, rfl, HKi', HK5i, hHi⟩ := hrel
          obtain ⟨nl', hH', hN', hA'⟩ := hHi.out
          clear hHi
          by_cases hjl : j < bn
          · have jI : (j : Int) < bn := by omega
            have j0 : (0 : Int) ≤ j := by omega
            obtain ⟨e, he⟩ : ∃ e, bl[j]? = some e := ⟨_, List.getElem?_eq_getElem (by have := HBN.out; omega)⟩
            have hem := bel_mem (q := q) (i := k) (e := e) (by rw [← HBL.out]; exact List.mem_of_getElem? he)
            obtain ⟨en, rfl⟩ : ∃ en : Nat, e = en := ⟨e.toNat, by omega⟩
            obtain ⟨b, ob, epb, -, hce⟩ := (HV5.out.kp HK5i.out (fun b hb => hb)).at he
            subst epb
            have ce : wr.cell? ⟨b, ob + j, none⟩ = some (.int .i64 en) := by have := hce 0 _ rfl; rwa [Nat.mul_one, Nat.add_zero] at this
            have hen : en ≤ i := by have := HKi.out; omega
            have yx := hH'.cell (a := en) (by rw [hN'.len]; omega)
            have zx := hH'.frozen en
            have e0 : (0 : Int) ≤ (en : Int) := by omega
            have e1 : (en : Int) < (i : Int) + 1 := by omega
            have hlen : en < nl'.length := by rw [hN'.len]; omega
            have HHn := hid (hH'.set en true)
            have HNn := hid (hN'.set (a := en) (by omega) hen)
            have HKn : Hid (Kp (fun k => k = nd) wr (wr.setCell ⟨nd, en, none⟩ (.bool true))) := Kp.set (T := fun k => k = nd) rfl _
            have HAn : Hid (∀ (j' : Nat) e, j' < j + 1 → bl[j']? = some e → hsAt (nl'.set en true) e = true) := by
              intro j' e h1 h2
              have hm2 := bel_mem (q := q) (i := k) (e := e) (by rw [← HBL.out]; exact List.mem_of_getElem? h2)
              rw [hsAt_setI hlen hm2.1]
              by_cases ee : e = (en : Int)
              · rw [if_pos ee]
              · rw [if_neg ee]
                rcases Nat.lt_or_ge j' j with h3 | h3
                · exact hA' j' e h3 h2
                · have : j' = j := by omega
                  subst this
                  rw [he] at h2; cases h2; exact absurd rfl ee
            clear hH' hN' hA' he hce hem hlen hjl
            go_wp2_with fail
            go_roundw
            case rel => exact ⟨j + 1, by omega, by go_num, HKi'.out.trans HKn.out, HK5i.out.trans HKn.out, _, HHn.out, HNn.out, HAn.out⟩
            case measure => simp [intOf]; omega
          · have jI : ¬ (j : Int) < bn := by omega
            have HHn := hid hH'
            have HFin : Hid (Need qs i k nl') := by
              refine ⟨hN'.len, hN'.top, fun a h1 h2 h3 q' hq' e he => ?_⟩
              by_cases ea : a = k
              · subst ea
                have : q' = q := by have := HX.out; rw [hq'] at this; exact Option.some.inj this
                subst this
                rw [← HBL.out] at he
                obtain ⟨j', hj'⟩ := List.getElem?_of_mem he
                exact hA' j' e (by have := (List.getElem?_eq_some_iff.1 hj').1; have := HBN.out; omega) hj'
              · exact hN'.down a (by omega) h2 h3 q' hq' e he
            clear hH' hN' hA' hjl
            go_wp2_with fail
            go_roundw
            case rel => exact ⟨k, by have := HKi.out; omega, by go_num, HKi'.out, nl', HHn.out, HFin.out⟩
            case measure => simp [intOf]
end Go.Proofs.Ytcidijjbcebcbaa.PD
namespace Go.Proofs.Ytcidijjbcebcbaa
open Go.RowKit Go.Joins

theorem app_A {ops : Array Oper} {rest : List Oper} {o : Oper} {a : Act} {Q : Exit → Act → World → Prop} {w : World} {α : Type} {enc : α → List Value} {k e t B N : Nat} {Qb : Nat → Prop} {xs ys : List α} {v u : Value}
    (hE : ElemN t e k N) (hk : ∀ x, (enc x).length = k) (h1 : ∀ y ∈ ys, ∀ c ∈ enc y, c.oneCell' = true) (hgd : o.guard = none) (s x : Operand) (ho : o.op = .call { callee := .builtin .append, args := #[s, x], argTypes := #[t, t] })
    (hs : a.eval s = v) (hown : Own enc k e B w v xs) (hx : a.eval x = u) (hu : SlAt Qb enc k w u ys) (hne : ys ≠ []) (hb : (xs.length + ys.length) * N ≤ 140737488355328) (hN : 1 ≤ N) (hB : B ≤ w.heap.size)
    (h : ∀ v' w', Own enc k e B w' v' (xs ++ ys) → w.grownBy w' v.ownBlock → At w v v' → wpList Try.prog ops Q rest (a.put o.dst v') w') : wpList Try.prog ops Q (o :: rest) a w := by
  refine wpList_plain hgd fun K hK => ?_
  have := step_appP (ops := ops) (E := False) (K := K) (Q := Q) hE hk h1 hgd s x ho hs hx hown hu hne hb hN hB (fun v' w' a b c => hK _ _ (h v' w' a b c))
  rw [if_pos (by simp [Region.wanted, hgd])] at this
  exact this

end Go.Proofs.Ytcidijjbcebcbaa
namespace Go.Proofs.Ytcidijjbcebcbaa
open Go.RowKit Go.Joins

section
variable {B : Nat} {w w' : World} {wb : Nat} {nv wv : Value} {ws us : List (List UInt8)}
end
end Go.Proofs.Ytcidijjbcebcbaa
namespace Go.Proofs.Ytcidijjbcebcbaa.TN
open Go.RowKit Go.Sort Go.Shelf

def leR (x y : Rw) : Bool := decide (cmpR x y ≤ 0)
def mergeR (a b : List Rw) : List Rw := List.merge a b leR
theorem mergeR_left {a b : List Rw} {i k : Nat} (hi : i < a.length) (hk : b.length ≤ k) : mergeR (a.drop i) (b.drop k) = a[i]! :: mergeR (a.drop (i + 1)) (b.drop k) := by
  have e1 : a[i]! = a[i] := by rw [List.getElem!_eq_getElem?_getD, List.getElem?_eq_getElem hi]; rfl
  rw [List.drop_eq_nil_of_le hk, List.drop_eq_getElem_cons hi, e1]
  unfold mergeR
  rw [List.merge_right, List.merge_right]
theorem mergeR_right {a b : List Rw} {i k : Nat} (hi : a.length ≤ i) (hk : k < b.length) : mergeR (a.drop i) (b.drop k) = b[k]! :: mergeR (a.drop i) (b.drop (k + 1)) := by
  have e1 : b[k]! = b[k] := by rw [List.getElem!_eq_getElem?_getD, List.getElem?_eq_getElem hk]; rfl
  rw [List.drop_eq_nil_of_le hi, List.drop_eq_getElem_cons hk, e1]
  unfold mergeR
  rw [List.nil_merge, List.nil_merge]
theorem mergeR_le {a b : List Rw} {i k : Nat} (hi : i < a.length) (hk : k < b.length) (h : cmpR a[i]! b[k]! ≤ 0) : mergeR (a.drop i) (b.drop k) = a[i]! :: mergeR (a.drop (i + 1)) (b.drop k) := by
  have e1 : a[i]! = a[i] := by rw [List.getElem!_eq_getElem?_getD, List.getElem?_eq_getElem hi]; rfl
  have e2 : b[k]! = b[k] := by rw [List.getElem!_eq_getElem?_getD, List.getElem?_eq_getElem hk]; rfl
  rw [e1, e2] at h
  rw [List.drop_eq_getElem_cons hi, List.drop_eq_getElem_cons hk, e1]
  unfold mergeR
  rw [List.cons_merge_cons, if_pos (by unfold leR; exact decide_eq_true h)]
theorem mergeR_gt {a b : List Rw} {i k : Nat} (hi : i < a.length) (hk : k < b.length) (h : ¬ cmpR a[i]! b[k]! ≤ 0) : mergeR (a.drop i) (b.drop k) = b[k]! :: mergeR (a.drop i) (b.drop (k + 1)) := by
  have e1 : a[i]! = a[i] := by rw [List.getElem!_eq_getElem?_getD, List.getElem?_eq_getElem hi]; rfl
  have e2 : b[k]! = b[k] := by rw [List.getElem!_eq_getElem?_getD, List.getElem?_eq_getElem hk]; rfl
  rw [e1, e2] at h
  rw [List.drop_eq_getElem_cons hi, List.drop_eq_getElem_cons hk, e2]
  unfold mergeR
  rw [List.cons_merge_cons, if_neg (by unfold leR; simpa using h)]
theorem mergeR_sort (a b : List Rw) : mergeR (sortR a) (sortR b) = sortR (a ++ b) := by
  refine sortR_of ?_ ?_
  · have := List.pairwise_merge (le := leR) (fun x y z h1 h2 => by unfold leR at *; simp at *; exact cmpR_trans h1 h2) (fun x y => by have := neg_cmpR x y; unfold leR; simp; omega) (sortR a) (sortR b) ((sortR_up a).imp fun h => by unfold leR; simpa using h) ((sortR_up b).imp fun h => by unfold leR; simpa using h)
    exact this.imp fun h => by unfold leR at h; simpa using h
  · exact (List.merge_perm_append (le := leR)).trans ((sortR_perm a).append (sortR_perm b))
theorem sortR_short {a : List Rw} (h : a.length < 2) : sortR a = a := by
  refine (sortR_of ?_ (List.Perm.refl a)).symm
  match a, h with
  | [], _ => exact List.Pairwise.nil
  | [x], _ => exact List.pairwise_singleton _ _
theorem SlAt.drop {α : Type} {Q : Nat → Prop} {enc : α → List Value} {k : Nat} {w : World} {p : Option Addr} {n cap : Nat} {xs : List α} (h : SlAt Q enc k w (.slice p n cap) xs) (hk1 : k = 1) (m : Nat) (hm : m ≤ n) : SlAt Q enc k w (.slice (if cap = m then p else Option.map (fun x => x.add m) p) (n - m) (cap - m)) (xs.drop m) := by
  subst hk1
  obtain ⟨p', cap', hv, ⟨hc, hno⟩, hmx, hx⟩ := h
  cases hv
  have hl : (xs.drop m).length = xs.length - m := by simp
  refine ⟨_, _, by rw [hl], ⟨by omega, ?_⟩, by omega, fun hne => ?_⟩
  · intro e
    split at e
    · omega
    · cases p with
      | none => have := hno rfl; omega
      | some a => cases e
  · have hlt : m < xs.length := by
      rcases Nat.lt_or_ge m xs.length with h | h
      · exact h
      · exact absurd (List.drop_eq_nil_of_le h) hne
    obtain ⟨b, o, rfl, hQ, hj⟩ := hx (by intro e; subst e; simp at hlt)
    rw [if_neg (by omega)]
    refine ⟨b, o + m, by simp [Addr.add_lit], ⟨hQ.1, Nat.le_trans (Nat.mul_le_mul_right _ (by omega)) hQ.2⟩, fun j x hjx => ?_⟩
    have := hj (m + j) x (by rw [List.getElem?_drop] at hjx; exact hjx)
    have e : o + (m + j) * 1 = o + m + j * 1 := by omega
    rwa [e] at this
theorem HeadsIn.drop {Q : Nat → Prop} {w : World} {hs : List Value} {rs : List Rw} (h : HeadsIn Q w hs rs) (m : Nat) : HeadsIn Q w (hs.drop m) (rs.drop m) := by
  refine ⟨by rw [List.length_drop, List.length_drop, h.1], fun j x r h1 h2 => ?_⟩
  rw [List.getElem?_drop] at h1 h2
  exact h.2 _ x r h1 h2
end Go.Proofs.Ytcidijjbcebcbaa.TN
namespace Go.Proofs.Ytcidijjbcebcbaa.TN
open Go.RowKit Go.Sort Go.Shelf

theorem rname_is {s : ByteArray} {r : Bool} {w : World} (hs : s.size ≤ maxLen) (h : nameB s = r) : Calls Try.prog 99 #[.string s] w fun e w' => e = .returned (.bool r) ∧ w' = w := by rw [← h]; exact rname_any hs
theorem rfind_is {v : Value} {cs : List Cl} {nm : ByteArray} {r : Int} {w : World} (hv : ColsAt w v cs) (h : findC cs nm = r) : Calls Try.prog 44 #[v, .string nm] w fun e w' => e = .returned (.int .i64 r) ∧ Below w.heap.size w w' := by rw [← h]; exact rfind_any hv
theorem cell_on {w w' : World} {a : Addr} {v : Value} (h : w.cell? a = some v) (hb : Below w.heap.size w w') : w'.cell? a = some v :=
  (hb.cell (block_lt_of_cell h)).trans h
set_option maxHeartbeats 1000000 in
theorem rcols_any {v : Value} {cs : List Cl} {w : World} (hv : ColsAt w v cs) :
    Calls Try.prog 64 #[v] w fun e w' => e = .returned (.bool (colsB cs)) ∧ Below w.heap.size w w' := by
  have hv0 := hv
  obtain ⟨p, cap, rfl, hcap, hmax, hx⟩ := hv
  unfold maxLen at hmax
  generalize hr : colsB cs = r
  have HR := hid hr
  clear hr
  by_cases h1 : cs.length < 1
  · have g1 : (cs.length : Int) < 1 := by omega
    clear hx hv0
    go_enter Try.func64, Try.ntmps64
    go_wp2
    go_ret
    exact ⟨ret_bool ((colsB_no (by omega)).symm.trans HR.out), Below.refl _ _⟩
  · have g1 : ¬ (cs.length : Int) < 1 := by omega
    by_cases h2 : 16 < cs.length
    · have g2 : (16 : Int) < (cs.length : Int) := by omega
      clear hx hv0
      go_enter Try.func64, Try.ntmps64
      go_wp2
      go_ret
      exact ⟨ret_bool ((colsB_no (by omega)).symm.trans HR.out), Below.refl _ _⟩
    · have g2 : ¬ (16 : Int) < (cs.length : Int) := by omega
      obtain ⟨b, o, rfl, -, hj⟩ := hx (by intro e; subst e; simp at h1)
      have HV := hid hv0
      have HJ := hid hj
      clear hx hv0 hj
      generalize hn : cs.length = n at *
      have HN := hid hn
      clear hn
      go_enter Try.func64, Try.ntmps64
      go_wp2
      go_loopw [3] (fun i wr => ∃ k : Nat, k ≤ n ∧ i = .int .i64 k ∧ Hid (Below w.heap.size w wr) ∧ Hid (∀ j, j < k → colOk cs j cs[j]! = true)) (fun i _ => n - (intOf i).toNat)
      case atStart => exact ⟨0, by omega, rfl, Below.refl _ _, fun j h => absurd h (Nat.not_lt_zero _)⟩
      case round =>
        obtain ⟨k, hk, rfl, HB, HA⟩ := hrel
        by_cases hlt : k < n
        · have hkc : k < cs.length := by rw [HN.out]; exact hlt
          obtain ⟨hc0, hc1⟩ := col_cells ((HJ.out k _ (get!_some hkc)).on HB.out)
          generalize hcc : cs[k]! = c at hc0 hc1
          have HCC := hid hcc
          have HC1 := hid hc1
          clear hcc
          have HS := hid c.small
          cases hb : nameB c.nm with
          | false =>
            go_wp2_with (first | (go_at_call 99; refine (rname_is HS.out hb).mono ?_; rintro e w' ⟨rfl, rfl⟩))
            go_ret
            exact ⟨ret_bool ((colsB_bad hkc (by rw [HCC.out]; exact colOk_name hb)).symm.trans HR.out), HB.out⟩
          | true =>
            generalize hf : findC cs c.nm = f
            have HF := hid hf
            clear hf
            by_cases hfk : f = (k : Int)
            · subst hfk
              by_cases h3 : c.kd < 1
              · go_wp2_with (first | (go_at_call 99; refine (rname_is HS.out hb).mono ?_; rintro e w' ⟨rfl, rfl⟩) | (go_at_call 44; refine (rfind_is (HV.out.on HB.out) HF.out).mono ?_; rintro e w2 ⟨rfl, hbl⟩; have hc2 := cell_on HC1.out hbl; have HBL := hid hbl; clear hbl))
                go_ret
                exact ⟨ret_bool ((colsB_bad hkc (by rw [HCC.out]; exact colOk_kind (by omega))).symm.trans HR.out), below_on HB.out HBL.out⟩
              · by_cases h4 : 4 < c.kd
                · go_wp2_with (first | (go_at_call 99; refine (rname_is HS.out hb).mono ?_; rintro e w' ⟨rfl, rfl⟩) | (go_at_call 44; refine (rfind_is (HV.out.on HB.out) HF.out).mono ?_; rintro e w2 ⟨rfl, hbl⟩; have hc2 := cell_on HC1.out hbl; have HBL := hid hbl; clear hbl))
                  go_ret
                  exact ⟨ret_bool ((colsB_bad hkc (by rw [HCC.out]; exact colOk_kind (by omega))).symm.trans HR.out), below_on HB.out HBL.out⟩
                · go_wp2_with (first | (go_at_call 99; refine (rname_is HS.out hb).mono ?_; rintro e w' ⟨rfl, rfl⟩) | (go_at_call 44; refine (rfind_is (HV.out.on HB.out) HF.out).mono ?_; rintro e w2 ⟨rfl, hbl⟩; have hc2 := cell_on HC1.out hbl; have HBL := hid hbl; clear hbl))
                  go_roundw
                  case rel =>
                    refine ⟨k + 1, by omega, by go_num, below_on HB.out HBL.out, fun j h => ?_⟩
                    by_cases e : j = k
                    · subst e; rw [HCC.out]; exact colOk_yes hb HF.out (by omega) (by omega)
                    · exact HA.out j (by omega)
                  case measure => simp [intOf]; omega
            · have hne : (f != (k : Int)) = true := by simpa using hfk
              have HFK := hid hfk
              clear hfk
              go_wp2_with (first | (go_at_call 99; refine (rname_is HS.out hb).mono ?_; rintro e w' ⟨rfl, rfl⟩) | (go_at_call 44; refine (rfind_is (HV.out.on HB.out) HF.out).mono ?_; rintro e w2 ⟨rfl, hbl⟩; have hc2 := cell_on HC1.out hbl; have HBL := hid hbl; clear hbl))
              go_ret
              exact ⟨ret_bool ((colsB_bad hkc (by rw [HCC.out]; exact colOk_find (by rw [HF.out]; exact HFK.out))).symm.trans HR.out), below_on HB.out HBL.out⟩
        · have hks : k = n := by omega
          subst hks
          go_wp2
          go_ret
          exact ⟨ret_bool ((colsB_yes (by rw [HN.out]; omega) (by rw [HN.out]; exact HA.out)).symm.trans HR.out), HB.out⟩
end Go.Proofs.Ytcidijjbcebcbaa.TN
namespace Go.Proofs.Ytcidijjbcebcbaa.TN
open Go.RowKit Go.Sort Go.Shelf

theorem rcols_is {v : Value} {cs : List Cl} {r : Bool} {w : World} (hv : ColsAt w v cs) (h : colsB cs = r) : Calls Try.prog 64 #[v] w fun e w' => e = .returned (.bool r) ∧ Below w.heap.size w w' := by rw [← h]; exact rcols_any hv
theorem rvalid_is {x : Vl} {r : Bool} {w : World} (h : validL x = r) : Calls Try.prog 65 #[x.val] w fun e w' => e = .returned (.bool r) ∧ Below w.heap.size w w' := by rw [← h]; exact rvalid_any
set_option maxHeartbeats 2000000 in
theorem rcheck_any {v : Value} {cs : List Cl} {rs : List Rw} {w : World} (hv : TabAt w v cs rs) :
    Calls Try.prog 32 #[v] w fun e w' => e = .returned (.int .i64 (checkV cs rs)) ∧ Below w.heap.size w w' := by
  obtain ⟨c, rv, rfl, hc, hs, hrs, hh⟩ := hv
  have HC := hid hc
  obtain ⟨p, cap, rfl, hcap, hmax, hx⟩ := hrs
  obtain ⟨q, cap', rfl, hcap', hmax', hy⟩ := hc
  unfold maxLen at hmax hmax'
  generalize hr : checkV cs rs = res
  have HR := hid hr
  have HX := hid hx
  have HY := hid hy
  have HH := hid hh
  clear hr hx hh hy
  generalize hn : hs.length = n at *
  generalize hm : cs.length = m at *
  have HN := hid hn
  have HM := hid hm
  clear hn hm
  have HE : Hid (Below w.heap.size w (w.alloc (.cells #[.slice q m cap', .slice p n cap] 28))) := (Below.refl _ _).alloc (Nat.le_refl _) _
  have KB := hid (alloc_block w (.cells #[.slice q m cap', .slice p n cap] 28))
  cases hb : colsB cs with
  | false =>
    go_enter Try.func32, Try.ntmps32
    go_wp2_with (first | (go_at_call 64; refine (rcols_is (HC.out.on HE.out) hb).mono ?_; rintro e w1 ⟨rfl, hb1⟩))
    go_ret
    exact ⟨ret_int ((check_cols hb).symm.trans HR.out), below_on HE.out hb1⟩
  | true =>
    have HCB := hid hb
    go_enter Try.func32, Try.ntmps32
    go_wp2_with (first | (go_at_call 64; refine (rcols_is (HC.out.on HE.out) hb).mono ?_; rintro e w1 ⟨rfl, hb1⟩; have HB1 := hid (below_on HE.out hb1); have KB1 := hid (block_on KB.out hb1); have kb1 := block_cell KB1.out; clear hb1))
    clear kb1 hb HE KB
    go_loopw [3] (fun i wr => ∃ k : Nat, k ≤ n ∧ i = .int .i64 k ∧ Hid (Below w.heap.size w wr) ∧ Hid (wr.heap[w.heap.size]? = some (.cells #[.slice q m cap', .slice p n cap] 28 (0, 0))) ∧ Hid (∀ j, j < k → rowB cs rs[j]! = true)) (fun i _ => n - (intOf i).toNat)
    case atStart => exact ⟨0, by omega, rfl, HB1.out, KB1.out, fun j h => absurd h (Nat.not_lt_zero _)⟩
    case round =>
      clear HB1 KB1
      obtain ⟨k, hk, rfl, HB, HK, HA⟩ := hrel
      have k0 := block_cell HK.out
      by_cases hlt : k < n
      · have hkh : k < hs.length := by rw [HN.out]; exact hlt
        have hkr : k < rs.length := by rw [← HH.out.1]; exact hkh
        obtain ⟨b, o, rfl, -, hj⟩ := HX.out (by intro e; subst e; simp at hkh)
        have hd := head_cell (fun j x hjx => (hj j x hjx).on HB.out) (get!_some hkh)
        have HRow := hid ((HH.out.2 k _ _ (get!_some hkh) (get!_some hkr)).on HB.out)
        have HBAD := hid (fun h => check_bad (cs := cs) (rs := rs) HCB.out hkr h)
        have HSTEP : Hid (rowB cs rs[k]! = true → ∀ j, j < k + 1 → rowB cs rs[j]! = true) := fun e j hj => by
          by_cases h : j = k
          · subst h; exact e
          · exact HA.out j (by omega)
        generalize hs[k]! = hd0 at hd HRow
        generalize rs[k]! = r at HRow HBAD HSTEP
        clear hj
        obtain ⟨q', capr, rfl, hcapr, hmaxr, hz⟩ := HRow.out
        unfold maxLen at hmaxr
        have HZ := hid hz
        clear hz
        generalize hl : r.length = l at *
        have HL := hid hl
        clear hl
        by_cases hlm : l = m
        · have hne : ((l : Int) != (m : Int)) = false := by simp; omega
          go_wp2_with fail
          go_quiet (fail)
          have HB2 := hid (below_drewN HB.out nq)
          have HK2 := hid (show (wr.drewN nq).heap[w.heap.size]? = _ from HK.out)
          have hd2 : (wr.drewN nq).cell? ⟨b, o + k, none⟩ = _ := hd
          have HD2 := hid hd2
          have HZ2 : Hid (r ≠ [] → ∃ b o, q' = some ⟨b, o, none⟩ ∧ (any b ∧ l * bsz 11 ≤ 140737488355328) ∧ ∀ (j : Nat) x, r[j]? = some x → CellsAt (wr.drewN nq) b (o + j * 11) x.cells) := fun hne => by
            obtain ⟨b, o, hp, hQ, hj⟩ := HZ.out hne
            exact ⟨b, o, hp, hQ, fun j x hjx => (hj j x hjx).on (below_drewN (Below.refl _ _) nq)⟩
          clear k0 hd HB HK HZ HRow hd2
          generalize wr.drewN nq = w3 at *
          go_wp2
          go_loopw [4] (fun i w4 => ∃ j : Nat, j ≤ m ∧ i = .int .i64 j ∧ Hid (Below w3.heap.size w3 w4) ∧ Hid (∀ t, t < j → fitB cs[t]!.kd r[t]! = true)) (fun i _ => m - (intOf i).toNat)
          case atStart => exact ⟨0, by omega, rfl, Below.refl _ _, fun j h => absurd h (Nat.not_lt_zero _)⟩
          case round =>
            obtain ⟨j, hj, rfl, HB4, HF⟩ := hrel
            have HB5 := hid (below_on HB2.out HB4.out)
            have HK5 := hid (block_on HK2.out HB4.out)
            have kk := block_cell HK5.out
            by_cases hjm : j < m
            · have hjr : j < r.length := by rw [HL.out]; omega
              have hjc : j < cs.length := by rw [HM.out]; exact hjm
              obtain ⟨b1, o1, rfl, -, hv1⟩ := HZ2.out (by intro e; subst e; simp at hjr)
              obtain ⟨b2, o2, rfl, -, hv2⟩ := HY.out (by intro e; subst e; simp at hjc)
              obtain ⟨c0, c1, c2, c3, c4, c5, c6, c7, c8, c9, c10⟩ := val_cells ((hv1 j _ (get!_some hjr)).on HB4.out)
              obtain ⟨e0, e1⟩ := col_cells ((hv2 j _ (get!_some hjc)).on HB5.out)
              have hd5 := cell_on HD2.out HB4.out
              have HFBAD := hid (fun h => rowB_bad (cs := cs) (r := r) hjr h)
              have HFSTEP : Hid (fitB cs[j]!.kd r[j]! = true → ∀ t, t < j + 1 → fitB cs[t]!.kd r[t]! = true) := fun e t ht => by
                by_cases h : t = j
                · subst h; exact e
                · exact HF.out t (by omega)
              generalize r[j]! = x at c0 c1 c2 c3 c4 c5 c6 c7 c8 c9 c10 HFBAD HFSTEP
              generalize cs[j]! = y at e0 e1 HFBAD HFSTEP
              clear hv1 hv2 HZ2
              replace c0 := regrown_cell c0
              replace c1 := regrown_cell c1
              replace c2 := regrown_cell c2
              replace c3 := regrown_cell c3
              replace c4 := regrown_cell c4
              replace c5 := regrown_cell c5
              replace c6 := regrown_cell c6
              replace c7 := regrown_cell c7
              replace c8 := regrown_cell c8
              replace c9 := regrown_cell c9
              replace c10 := regrown_cell c10
              replace e1 := regrown_cell e1
              replace hd5 := regrown_cell hd5
              have kk0 : ∀ d os i, (grow (redrawn wr d) os).cell? ⟨w.heap.size, i, none⟩ = (#[.slice (some ⟨b2, o2, none⟩) m cap', .slice (some ⟨b, o, none⟩) n cap] : Array Value)[i]? := fun d os i => block_cell (block_on HK5.out (below_regrown wr d os)) i
              clear e0
              by_cases hkd : x.k = y.kd
              · have hkn : (x.k != y.kd) = false := by simpa using hkd
                have HKD := hid hkd
                clear hkd
                cases hvl : validL x with
                | true =>
                  go_wp2_with fail
                  refine wp_region_quiet_below (by kernel_rfl) (by kernel_rfl) ?_
                  repeat (go_big_quiet_step (first | (go_at_call 65; exact Calls.regrown_of (rvalid_is hvl))))
                  refine wpQuiet_nil ?_
                  intro _ hw'
                  obtain ⟨⟨dq, osq⟩, hw''⟩ := hw'
                  subst hw''
                  go_wp2
                  go_roundw
                  case rel => exact ⟨j + 1, by omega, by go_num, below_on HB4.out (below_regrown wr dq osq), HFSTEP.out (by rw [fit_is HKD.out]; exact hvl)⟩
                  case measure => simp [intOf]; omega
                | false =>
                  go_wp2_with fail
                  refine wp_region_quiet_below (by kernel_rfl) (by kernel_rfl) ?_
                  repeat (go_big_quiet_step (first | (go_at_call 65; exact Calls.regrown_of (rvalid_is hvl))))
                  refine wpQuiet_nil ?_
                  intro _ hw'
                  obtain ⟨⟨dq, osq⟩, hw''⟩ := hw'
                  subst hw''
                  go_wp2
                  go_ret
                  exact ⟨ret_int ((HBAD.out (HFBAD.out (by rw [fit_is HKD.out]; exact hvl))).symm.trans HR.out), below_on HB5.out (below_regrown wr dq osq)⟩
              · have hkn : (x.k != y.kd) = true := by simpa using hkd
                have HKD := hid hkd
                clear hkd
                go_wp2_with fail
                refine wp_region_quiet_below (by kernel_rfl) (by kernel_rfl) ?_
                repeat (go_big_quiet_step (first | fail))
                refine wpQuiet_nil ?_
                intro _ hw'
                obtain ⟨⟨dq, osq⟩, hw''⟩ := hw'
                subst hw''
                go_wp2
                go_ret
                exact ⟨ret_int ((HBAD.out (HFBAD.out (fit_no HKD.out))).symm.trans HR.out), below_on HB5.out (below_regrown wr dq osq)⟩
            · have hjs : j = m := by omega
              subst hjs
              go_wp2
              go_roundw
              case rel => exact ⟨k + 1, by omega, by go_num, HB5.out, HK5.out, HSTEP.out (rowB_yes (by rw [HL.out, HM.out]; exact hlm) (by rw [HL.out, hlm]; exact HF.out))⟩
              case measure => simp [intOf]; omega
        · have hne : ((l : Int) != (m : Int)) = true := by simp; omega
          go_wp2_with fail
          go_quiet (fail)
          go_wp2
          go_ret
          exact ⟨ret_int ((HBAD.out (rowB_no (by rw [HL.out, HM.out]; exact hlm))).symm.trans HR.out), below_drewN HB.out _⟩
      · have hks : k = n := by omega
        subst hks
        go_wp2
        go_ret
        exact ⟨ret_int ((check_ok HCB.out (by rw [← HH.out.1, HN.out]; exact HA.out)).symm.trans HR.out), HB.out⟩
end Go.Proofs.Ytcidijjbcebcbaa.TN
namespace Go.Proofs.Ytcidijjbcebcbaa.TN
open Go.RowKit Go.Sort Go.Shelf

theorem SlAt.take {α : Type} {Q : Nat → Prop} {enc : α → List Value} {k : Nat} {w : World} {p : Option Addr} {n cap : Nat} {xs : List α} (h : SlAt Q enc k w (.slice p n cap) xs) (m : Nat) (hm : m ≤ n) : SlAt Q enc k w (.slice p m cap) (xs.take m) := by
  obtain ⟨p', cap', hv, ⟨hc, hno⟩, hmx, hx⟩ := h
  cases hv
  have hl : (xs.take m).length = m := by simp; omega
  refine ⟨p, cap, by rw [hl], ⟨by omega, hno⟩, by omega, fun hne => ?_⟩
  obtain ⟨b, o, hp, hQ, hj⟩ := hx (by intro e; subst e; simp at hne)
  refine ⟨b, o, hp, ⟨hQ.1, Nat.le_trans (Nat.mul_le_mul_right _ (by omega)) hQ.2⟩, fun j x hjx => hj j x ?_⟩
  have hlt : j < m := by have := (List.getElem?_eq_some_iff.1 hjx).1; omega
  rwa [List.getElem?_take_of_lt hlt] at hjx
theorem HeadsIn.take {Q : Nat → Prop} {w : World} {hs : List Value} {rs : List Rw} (h : HeadsIn Q w hs rs) (m : Nat) : HeadsIn Q w (hs.take m) (rs.take m) := by
  refine ⟨by rw [List.length_take, List.length_take, h.1], fun j x r h1 h2 => ?_⟩
  have hlt : j < m := by have := (List.getElem?_eq_some_iff.1 h1).1; simp at this; omega
  rw [List.getElem?_take_of_lt hlt] at h1 h2
  exact h.2 j x r h1 h2
end Go.Proofs.Ytcidijjbcebcbaa.TN
namespace Go.Proofs.Ytcidijjbcebcbaa.TN
open Go.RowKit Go.Sort Go.Shelf

def encN (n : Nat) : List Value := [.int .i64 (n : Int)]
theorem take_map_snoc_gen {β : Type} {ps : List Nat} {f : Nat → β} {k : Nat} (h : k < ps.length) : (ps.take (k + 1)).map f = (ps.take k).map f ++ [f ps[k]!] := by
  have e : ps[k]! = ps[k] := by rw [List.getElem!_eq_getElem?_getD, List.getElem?_eq_getElem h]; rfl
  rw [List.take_succ_eq_append_getElem h, List.map_append, e]; rfl
/- A block of m elements of k cells, whose first ones are these. -/
structure Filled {α : Type} (enc : α → List Value) (k B m : Nat) (xs : List α) (w : World) : Prop where
  lt : B < w.heap.size
  cell : ∀ i, i < m * k → ∃ y, w.cell? ⟨B, i, none⟩ = some y
  frozen : ∀ i, w.frozen? ⟨B, i, none⟩ = false
  held : ∀ (j : Nat) x, xs[j]? = some x → CellsAt w B (j * k) (enc x)
theorem Filled.start {α : Type} (enc : α → List Value) (k m e : Nat) (w : World) {C : Array Value} (hc : C.size = m * k) : Filled enc k w.heap.size m ([] : List α) (w.alloc (.cells C e)) := by
  have hb := alloc_block w (.cells C e)
  refine ⟨by simp, fun i hi => ⟨C[i]'(by omega), ?_⟩, fun i => frozen_no hb i, fun j x h => by simp at h⟩
  rw [block_cell hb]; exact Array.getElem?_eq_getElem _
theorem frozen_sets (b : Nat) : ∀ (vs : List Value) (o : Nat) (w : World) (a : Addr), (w.setCells b o vs).frozen? a = w.frozen? a
  | [], _, _, _ => rfl
  | v :: vs, o, w, a => by rw [World.setCells, frozen_sets b vs]; simp
theorem below_sets {B : Nat} {w w' : World} {R : Nat} (h : Below B w w') (hR : B ≤ R) : ∀ (vs : List Value) (o : Nat), Below B w (w'.setCells R o vs)
  | [], _ => h
  | v :: vs, o => by rw [World.setCells]; exact below_sets (below_set h hR) hR vs (o + 1)
theorem size_sets (b : Nat) : ∀ (vs : List Value) (o : Nat) (w : World), (w.setCells b o vs).heap.size = w.heap.size
  | [], _, _ => rfl
  | v :: vs, o, w => by rw [World.setCells, size_sets b vs, World.size_setCell]
theorem Filled.put {α : Type} {enc : α → List Value} {k B m : Nat} {xs : List α} {w : World} {x : α} (h : Filled enc k B m xs w) (hk : ∀ x, (enc x).length = k) (hkm : (xs.length + 1) * k ≤ m * k) : Filled enc k B m (xs ++ [x]) (w.setCells B (xs.length * k) (enc x)) := by
  have hin := World.cell?_setCells_in B (enc x) (xs.length * k) w (fun j hj => by
    rw [hk] at hj
    obtain ⟨y, hy⟩ := h.cell (xs.length * k + j) (by rw [Nat.succ_mul] at hkm; omega)
    rw [hy]; rfl)
  have hout := fun a => World.cell?_setCells_out B (enc x) (xs.length * k) w a
  refine ⟨by rw [size_sets]; exact h.lt, fun i hi => ?_, fun i => by rw [frozen_sets]; exact h.frozen i, fun j y hy i u hu => ?_⟩
  · by_cases hc : i < xs.length * k ∨ xs.length * k + (enc x).length ≤ i
    · obtain ⟨y, hy⟩ := h.cell i hi
      exact ⟨y, (hout ⟨B, i, none⟩ (fun _ _ => hc)).trans hy⟩
    · have hj : i - xs.length * k < (enc x).length := by omega
      have := hin (i - xs.length * k) hj
      rw [show xs.length * k + (i - xs.length * k) = i from by omega] at this
      exact ⟨_, this⟩
  · have hiu : i < k := by
      have := (List.getElem?_eq_some_iff.1 hu).1
      rwa [hk] at this
    by_cases hj : j < xs.length
    · rw [List.getElem?_append_left hj] at hy
      have h1 := h.held j y hy i u hu
      have h2 : j * k + i < xs.length * k := by
        have : (j + 1) * k ≤ xs.length * k := Nat.mul_le_mul_right k hj
        rw [Nat.succ_mul] at this; omega
      exact (hout ⟨B, j * k + i, none⟩ (fun _ _ => Or.inl h2)).trans h1
    · rw [List.getElem?_append_right (by omega)] at hy
      cases hd : j - xs.length with
      | succ d => rw [hd] at hy; simp at hy
      | zero =>
        rw [hd] at hy
        simp at hy
        subst hy
        have hje : j = xs.length := by omega
        subst hje
        have hlt := (List.getElem?_eq_some_iff.1 hu).1
        have := hin i hlt
        rw [this, (List.getElem?_eq_some_iff.1 hu).2]
theorem Filled.sl {α : Type} {enc : α → List Value} {k B m : Nat} {xs : List α} {w : World} (h : Filled enc k B m xs w) (hl : xs.length = m) (hm : m ≤ 4096) : SlAt (fun b => B ≤ b) enc k w (.slice (some ⟨B, 0, none⟩) m m) xs := by
  refine ⟨some ⟨B, 0, none⟩, m, by rw [hl], ⟨by omega, fun e => by cases e⟩, by unfold maxLen; omega, fun _ => ⟨B, 0, rfl, ⟨Nat.le_refl _, by unfold bsz; split <;> omega⟩, fun j x hj => ?_⟩⟩
  rw [Nat.zero_add]; exact h.held j x hj

theorem make_pickV (n : Nat) (hn : n ≤ 4096) (W : World) : (Instr.makeSlice 33 (.int .i64 (n : Int)) (.int .i64 (n : Int))).run Try.prog W = .ok (.slice (some ⟨W.heap.size, 0, none⟩) n n) (W.alloc (.cells (madeCells (V 0 0 ⟨#[]⟩ 0 0 0 0 0 0 0 0).cells (n * 11)) 39)) := by
  obtain ⟨i, hi, h0, h1, h2⟩ := info_parts info48
  have h := run_make W 33 39 i _ Try.underlying33 hi h0 .i64 .i64 (n : Int) (n : Int) (by omega) (Int.le_refl _) (by rw [h2]; omega) (by omega)
  rw [h, h1, Int.toNat_natCast]
theorem make_pickC (n : Nat) (hn : n ≤ 4096) (W : World) : (Instr.makeSlice 25 (.int .i64 (n : Int)) (.int .i64 (n : Int))).run Try.prog W = .ok (.slice (some ⟨W.heap.size, 0, none⟩) n n) (W.alloc (.cells (madeCells (Value.agg #[.string ⟨#[]⟩, .int .i64 0]).cells (n * 2)) 61)) := by
  obtain ⟨i, hi, h0, h1, h2⟩ := info_parts info45
  have h := run_make W 25 61 i _ Try.underlying25 hi h0 .i64 .i64 (n : Int) (n : Int) (by omega) (Int.le_refl _) (by rw [h2]; omega) (by omega)
  rw [h, h1, Int.toNat_natCast]
end Go.Proofs.Ytcidijjbcebcbaa.TN
