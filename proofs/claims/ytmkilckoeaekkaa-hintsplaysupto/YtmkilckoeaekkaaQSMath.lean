/-
  Hosts that go to the one index and to the other one by turns, and what both joined tell of each.
-/
import Derived.Test.YtmkilckoeaekkaaQHGrow
namespace Go.Proofs.Ytmkilckoeaekkaa
open Go.RowKit Go.Sort Go.Maps Go.Shelf

theorem slice_str {s p : ByteArray} {A B : Int} {a b : Nat} (hA : A = (a : Int)) (hB : B = (b : Int)) (hab : a ≤ b) (hb : b ≤ s.size) (hp : s.extract a b = p) (w : World) : (Instr.slice 9 (.string s) (some (.int .i64 A)) (some (.int .i64 B)) none).run Try.prog w = .ok (.string p) w := by
  subst hA hB
  rw [run_slice_string w 9 s .i64 .i64 _ _ Try.underlying9 (by omega) (by omega) (by omega), ← hp]
  simp
theorem xsOf_extract (s : ByteArray) {a b : Nat} (hab : a ≤ b) : ∃ x y, xsOf s = x ++ (xsOf (s.extract a b) ++ y) := by
  refine ⟨(xsOf s).take a, (xsOf s).drop b, ?_⟩
  have h : xsOf (s.extract a b) = ((xsOf s).take b).drop a := by
    unfold xsOf; rw [ByteArray.data_extract, Array.toList_extract]; simp [List.extract, List.take_drop, show a + (b - a) = b by omega]
  rw [h]
  have h1 : (xsOf s).take a = ((xsOf s).take b).take a := by rw [List.take_take, Nat.min_eq_left hab]
  rw [h1, ← List.append_assoc, List.take_append_drop, List.take_append_drop]
theorem part_is (s : ByteArray) {a b : Nat} (hab : a ≤ b) : wit (ofS (xsOf (s.extract a b))) (ofS (xsOf s)) = true := by
  obtain ⟨x, y, h⟩ := xsOf_extract s hab
  have := part_wit x (xsOf (s.extract a b)) y
  rwa [← h] at this
theorem whole_wit (s : ByteArray) : wit (ofS (xsOf s)) (ofS (wholeL (xsOf s))) = true := part_wit [1] (xsOf s) [2]
/- The first k hosts, by turns. -/
def xo (l : List ByteArray) : Nat → Ix × Ix
  | 0 => (Ix.none, Ix.none)
  | k + 1 => match l[k]? with
    | some s => if k % 2 = 0 then (addH (xo l k).1 s, (xo l k).2) else ((xo l k).1, addH (xo l k).2 s)
    | none => xo l k
theorem xo_even {l : List ByteArray} {k : Nat} {s : ByteArray} (h : l[k]? = some s) (hk : k % 2 = 0) : xo l (k + 1) = (addH (xo l k).1 s, (xo l k).2) := by
  rw [xo, h]; simp [hk]
theorem xo_odd {l : List ByteArray} {k : Nat} {s : ByteArray} (h : l[k]? = some s) (hk : ¬ k % 2 = 0) : xo l (k + 1) = ((xo l k).1, addH (xo l k).2 s) := by
  rw [xo, h]; simp [hk]
theorem addH_bits (x : Ix) (s : ByteArray) : (addH x s).bits loadB hostB = x.bits loadB hostB ||| wholeB s := by
  have e1 : addG (x.bits loadB) [hostC] [strV s] = setT (x.bits loadB) hostB (wholeB s) := addT_yes (k := 0) (c := hostC) (v := strV s) rfl rfl rfl
  have e2 : ∀ g : ByteArray → F256, addG g [nC] [intV] = g := fun g => addT_no (k := 0) (c := nC) (v := intV) rfl rfl (by decide)
  unfold addH addX Ix.put
  show (if loadB = loadB then addG (addG (x.bits loadB) [hostC] [strV s]) [nC] [intV] else (x.see loadB).bits loadB) hostB = _
  rw [if_pos rfl, e2, e1]
  show (if hostB = hostB then x.bits loadB hostB ||| wholeB s else x.bits loadB hostB) = _
  rw [if_pos rfl]
def hb (l : List ByteArray) (k : Nat) : F256 := (xo l k).1.bits loadB hostB ||| (xo l k).2.bits loadB hostB
theorem hb_step {l : List ByteArray} {k : Nat} {s : ByteArray} (h : l[k]? = some s) : hb l (k + 1) = hb l k ||| wholeB s := by
  unfold hb
  by_cases hk : k % 2 = 0
  · rw [xo_even h hk]
    show (addH (xo l k).1 s).bits loadB hostB ||| _ = _
    rw [addH_bits, BitVec.or_assoc, BitVec.or_comm (wholeB s), ← BitVec.or_assoc]
  · rw [xo_odd h hk]
    show _ ||| (addH (xo l k).2 s).bits loadB hostB = _
    rw [addH_bits, BitVec.or_assoc]
theorem hb_has {l : List ByteArray} {j : Nat} {s : ByteArray} (h : l[j]? = some s) : ∀ k, j < k → k ≤ l.length → wit (wholeB s) (hb l k) = true
  | 0, hj, _ => by omega
  | k + 1, hj, hk => by
    obtain ⟨t, ht⟩ : ∃ t, l[k]? = some t := ⟨l[k], List.getElem?_eq_getElem (by omega)⟩
    rw [hb_step ht]
    by_cases e : j = k
    · subst e
      rw [h] at ht; cases ht
      exact wit_right _ _
    · exact wit_trans (hb_has h k (by omega) (by omega)) (wit_left _ _)
theorem xo_seen {l : List ByteArray} : ∀ k, 0 < k → k ≤ l.length → ((xo l k).1.join (xo l k).2).seen loadB = true
  | 0, h, _ => by omega
  | k + 1, _, hk => by
    obtain ⟨t, ht⟩ : ∃ t, l[k]? = some t := ⟨l[k], List.getElem?_eq_getElem (by omega)⟩
    by_cases e : k % 2 = 0
    · rw [xo_even ht e]; show ((addH (xo l k).1 t).seen loadB || _) = true; rw [addH_seen]; simp
    · rw [xo_odd ht e]; show (_ || (addH (xo l k).2 t).seen loadB) = true; rw [addH_seen]; simp
def andN (g : Nat) : Nd := ⟨11, ⟨#[]⟩, 0, 0, 0, ⟨0, 0, ⟨#[]⟩, 0, 0, 0, 0, 0, 0, 0, 0⟩, .slice (some ⟨g, 0, none⟩) 2 2, .slice none 0 0, .slice none 0 0⟩
/- What both nodes, and 'and' of them, tell. -/
theorem sure_might {J : Ix} {s p : ByteArray} {g : Nat} (hs : J.seen loadB = true) (h1 : wit (wholeB s) (J.bits loadB hostB) = true) (h2 : wit (partB p) (J.bits loadB hostB) = true) :
    might KK J loadB (qs [(condN 14 1 s, []), (condN 15 0 p, []), (andN g, [0, 1])]) 0 = true ∧ might KK J loadB (qs [(condN 14 1 s, []), (condN 15 0 p, []), (andN g, [0, 1])]) 1 = true ∧ might KK J loadB (qs [(condN 14 1 s, []), (condN 15 0 p, []), (andN g, [0, 1])]) 2 = true := by
  have e1 : mayOne KK J loadB [] ((condN 14 1 s).q []) = true := h1
  have e2 : mayOne KK J loadB [true] ((condN 15 0 p).q []) = true := h2
  have e3 : mayOne KK J loadB [true, true] ((andN g).q [0, 1]) = true := rfl
  have hm : mights KK J loadB (qs [(condN 14 1 s, []), (condN 15 0 p, []), (andN g, [0, 1])]) = [true, true, true] := by
    show mayAll KK J loadB [(condN 14 1 s).q [], (condN 15 0 p).q [], (andN g).q [0, 1]] [] = _
    rw [mayAll, e1]
    show mayAll KK J loadB [(condN 15 0 p).q [], (andN g).q [0, 1]] [true] = _
    rw [mayAll, e2]
    show mayAll KK J loadB [(andN g).q [0, 1]] [true, true] = _
    rw [mayAll, e3]
    rfl
  refine ⟨?_, ?_, ?_⟩ <;> (unfold might; rw [hs, hm]; rfl)
theorem Fx.mono2 {w0 w : World} {M N M' N' b c : Nat} {x y : Ix} (h : Fx w0 [⟨M, b, x⟩, ⟨N, c, y⟩] w) (h1 : M ≤ M') (h2 : N ≤ N') : Fx w0 [⟨M', b, x⟩, ⟨N', c, y⟩] w := by
  obtain ⟨Ts, f1, f2, f3⟩ := h
  refine ⟨Ts, fun j e hj => ?_, f2, f3⟩
  match j with
  | 0 => cases hj; exact (f1 0 _ rfl).mono h1
  | 1 => cases hj; exact (f1 1 _ rfl).mono h2
  | j + 2 => simp at hj
theorem kindN_lt {c n : Int} (hn : 0 < n) : 0 ≤ kindN c n ∧ kindN c n < n := ⟨Int.emod_nonneg _ (by omega), Int.emod_lt_of_pos _ hn⟩
theorem kind_nat {c n : Int} (hc : -9223372036854775808 ≤ c ∧ c ≤ 9223372036854775807) (hn : 0 < n ∧ n ≤ 9223372036854775807) (w : World) : ∃ j : Nat, (j : Int) < n ∧ Calls Try.prog 8 #[.int .i64 c, .int .i64 n] w fun e w' => e = .returned (.int .i64 (j : Int)) ∧ w' = w := by
  obtain ⟨h0, h1⟩ := kindN_lt (c := c) hn.1
  refine ⟨(kindN c n).toNat, by omega, ?_⟩
  have := kind_any hc hn w
  rwa [show ((kindN c n).toNat : Int) = kindN c n by omega]
theorem kind_is {c n : Int} {j : Nat} (hc : -9223372036854775808 ≤ c ∧ c ≤ 9223372036854775807) (hn : 0 < n ∧ n ≤ 9223372036854775807) (hj : kindN c n = (j : Int)) (w : World) : Calls Try.prog 8 #[.int .i64 c, .int .i64 n] w fun e w' => e = .returned (.int .i64 (j : Int)) ∧ w' = w := by
  rw [← hj]; exact kind_any hc hn w
theorem kindN_nat {c n : Int} (hn : 0 < n) : ∃ j : Nat, kindN c n = (j : Int) ∧ (j : Int) < n := by
  obtain ⟨h0, h1⟩ := kindN_lt (c := c) hn
  exact ⟨(kindN c n).toNat, by omega, by omega⟩
theorem field26 (p : Option Addr) (n c : Nat) (w : World) : (Instr.field 26 (.agg #[.slice p n c]) 0).run Try.prog w = .ok (.slice p n c) w := by kernel_rfl
/- The query of three nodes is made. -/
theorem sure_made {w W w10 : World} {l : List It} {nb g0 gL : Nat} {s p : ByteArray} {v' : Value} (hf : Fx w l W) (hg : w.heap.size ≤ g0) (hn : w.heap.size ≤ nb) (hbx : W.heap[nb]? = some (.cells #[.slice (some ⟨g0, 0, none⟩) 1 1] 26)) (hb : W.heap[g0]? = some (.cells (condN 14 1 s).cells.toArray 63))
    (hL : W.heap[gL]? = some (.cells #[.int .i64 0, .int .i64 1] 3)) (hs : s.size ≤ 562949953421312) (hp : p.size ≤ 562949953421312)
    (hown : Own Nd.cells 19 63 w.heap.size w10 v' [condN 14 1 s, condN 15 0 p, andN gL]) (hgr : W.grownBy w10 (some g0)) :
    w10.heap[nb]? = some (.cells #[.slice (some ⟨g0, 0, none⟩) 1 1] 26) ∧ Fx w l (w10.setCell ⟨nb, 0, none⟩ v') ∧ (w10.setCell ⟨nb, 0, none⟩ v').heap[nb]? = some (.cells #[v'] 26) ∧ Qn (fun _ => True) (w10.setCell ⟨nb, 0, none⟩ v') v' [(condN 14 1 s, []), (condN 15 0 p, []), (andN gL, [0, 1])] := by
  have k6 : Kp (fun k => k = g0) W w10 := Kp.grown hgr (fun k e => by cases e; rfl)
  have n1 : nb ≠ g0 := fun e => by rw [e, hb] at hbx; cases hbx
  have n2 : gL ≠ g0 := fun e => by rw [e, hb] at hL; cases hL
  have n3 : gL ≠ nb := fun e => by rw [e, hbx] at hL; cases hL
  have c1 := k6.blk hbx n1
  have c2 := k6.blk hL n2
  have a6 := hf.kpC k6 hb (by decide) hg
  have ks : Kp (fun k => k = nb) w10 (w10.setCell ⟨nb, 0, none⟩ v') := Kp.set (T := fun k => k = nb) rfl _
  refine ⟨c1, a6.kpC ks c1 (by decide) hn, block_set c1 0 v', ?_⟩
  have ho := hown.kp ks (fun k e e2 => by subst e2; obtain ⟨c, fz, hc⟩ := hown.kind e; rw [c1] at hc; cases hc)
  have c3 := ks.blk c2 n3
  refine ⟨?_, fun y hy => ?_, by simp⟩
  · obtain ⟨p', cap, hv, hc, hx⟩ := ho.sl nd_len
    refine ⟨p', cap, hv, hc, fun _ => ?_⟩
    obtain ⟨b', o', hp', -, hcell⟩ := hx (by simp)
    refine ⟨b', o', hp', trivial, fun j y hj => ?_⟩
    match j with
    | 0 => simp at hj; subst hj; exact hcell 0 _ rfl
    | 1 => simp at hj; subst hj; exact hcell 1 _ rfl
    | 2 => simp at hj; subst hj; exact hcell 2 _ rfl
    | j + 3 => simp at hj
  · simp at hy
    rcases hy with rfl | rfl | rfl
    · exact ⟨by show hostB.size ≤ maxLen; decide, hs, nil_sl _ _ _ _, ⟨_, _, _, rfl⟩, ⟨_, _, _, rfl⟩⟩
    · exact ⟨by show hostB.size ≤ maxLen; decide, hp, nil_sl _ _ _ _, ⟨_, _, _, rfl⟩, ⟨_, _, _, rfl⟩⟩
    · refine ⟨by show (⟨#[]⟩ : ByteArray).size ≤ maxLen; decide, by show (⟨#[]⟩ : ByteArray).size ≤ _; decide, ?_, ⟨_, _, _, rfl⟩, ⟨_, _, _, rfl⟩⟩
      have := Own.blk (enc := int1) (k := 1) (e := 3) (B := 0) (xs := [0, 1]) (fun _ => rfl) (Nat.zero_le gL) c3 (by decide)
      exact (Own.sl this (fun _ => rfl)).imp (fun _ _ => trivial)
end Go.Proofs.Ytmkilckoeaekkaa
