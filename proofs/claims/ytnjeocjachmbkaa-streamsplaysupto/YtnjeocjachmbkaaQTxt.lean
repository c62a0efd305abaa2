/-
  What streams.textOf returns, for any name and any keys.
-/
import Derived.Test.YtnjeocjachmbkaaPL
import Derived.Test.YtnjeocjachmbkaaQXMath
namespace Go.Proofs.Ytnjeocjachmbkaa
open Go.RowKit Go.Sort

def textV (nm : ByteArray) (ks : Rw) : ByteArray := if okK ks then txt ⟨nm, ks⟩ else ⟨#[]⟩
def textE (ks : Rw) : Int := if okK ks then 0 else 10
theorem appG_any {ops : Array Oper} {rest : List Oper} {o : Oper} {a : Act} {Q : Exit → Act → World → Prop} {w : World} {B : Nat} {xs ys : List UInt8} {v y : Value}
    (hgd : o.guard = none) (s x : Operand) (ho : o.op = .call { callee := .builtin .append, args := #[s, x], argTypes := #[22, 22] })
    (hs : a.eval s = v) (hown : OwnB B w v xs) (hx : a.eval x = y) (hu : BAt w y ys) (hb : xs.length + ys.length ≤ 140737488355328) (hB : B ≤ w.heap.size)
    (h : ∀ v' w', OwnB B w' v' (xs ++ ys) → Fr B w w' → w.grownBy w' v.ownBlock → wpList Try.prog ops Q rest (a.put o.dst v') w') : wpList Try.prog ops Q (o :: rest) a w := by
  obtain ⟨i0, hi, hz0, hz1, hz2⟩ := info_parts info5
  obtain ⟨p, cap, rfl, hcap, hnone, hmax, hy⟩ := hu
  cases p with
  | none =>
    have hn : ys = [] := by
      cases ys with
      | nil => rfl
      | cons y r => obtain ⟨b, hp, _⟩ := hy (by simp); cases hp
    subst hn
    have hc := hnone rfl
    subst hc
    refine wpList_append_own_none hgd s x 22 ho B 5 i0 1 Try.underlying22 hi v xs.length _ hs hown (by rw [hx]; rfl) ?_
    exact h v w (by rw [List.append_nil]; exact hown) (Fr.refl _ _) ⟨rfl, rfl, rfl, Nat.le_refl _, fun _ _ _ => rfl⟩
  | some ad =>
    refine wpList_append_own w hgd s x 22 ho B 5 i0 (.int .u8 0) 1 1 Try.underlying22 hi hz0 hz1 hz2 rfl (by omega) v xs.length _ hs hown ad ys.length cap (ys.map bc) hx (by simp) ?_ ?_ ?_ (by omega) hB ?_
    · intro j c hj
      have hne : ys ≠ [] := by intro e; subst e; simp at hj
      obtain ⟨b, hp, hcell⟩ := hy hne
      cases hp
      rw [List.getElem?_map] at hj
      cases hyj : ys[j]? with
      | none => rw [hyj] at hj; cases hj
      | some x => rw [hyj] at hj; cases hj; exact hcell j x hyj
    · intro c hc
      obtain ⟨y, _, rfl⟩ := List.mem_map.1 hc
      rfl
    · unfold maxLen; omega
    · intro v' w' h2 h3 _
      refine h v' w' ?_ (fr_grown hown h3 hB) h3
      show w'.ownsRow B 5 1 v' (xs ++ ys).length ((xs ++ ys).map bc)
      rw [List.length_append, List.map_append]; exact h2
/- Bytes of a later row stay while an earlier row grows. -/
theorem own_lt {B : Nat} {w : World} {v : Value} {xs : List UInt8} (h : OwnB B w v xs) : ∀ g, v.ownBlock = some g → g < w.heap.size := fun g hg => (World.ownsRow.lt h g hg).2
theorem own_grown {B' : Nat} {w w' : World} {v : Value} {ys : List UInt8} {row : Option Nat} (h : OwnB B' w v ys) (hg : w.grownBy w' row) (hr : ∀ g, row = some g → g < B') : OwnB B' w' v ys := by
  refine ⟨h.1, ?_⟩
  rcases h.2 with h0 | ⟨g, cap, cur, hv, hg', hblk, hc⟩
  · exact .inl h0
  · refine .inr ⟨g, cap, cur, hv, hg', (hg.block g (lt_of_block hblk) (fun e => ?_)).trans hblk, hc⟩
    have := hr g e.symm
    omega
theorem dig_mod (n : Int) : n % 256 = ((dig n 0).toNat : Int) := by rw [dig_nat]; simp
theorem okK_take {ks : Rw} {k : Nat} {x : Vl} (hx : ks[k]? = some x) (h : okK (ks.take k) = true) : okK (ks.take (k + 1)) = validL x := by
  rw [List.take_add_one, hx]
  unfold okK at *
  rw [List.all_append, h]
  simp
theorem okK_bad {ks : Rw} {k : Nat} {x : Vl} (hx : ks[k]? = some x) (h : validL x = false) : okK ks = false := by
  rw [Bool.eq_false_iff]
  intro e
  unfold okK at e
  rw [List.all_eq_true] at e
  rw [e x (List.mem_of_getElem? hx)] at h
  cases h
theorem keysB_take {ks : Rw} {k : Nat} {x : Vl} (hx : ks[k]? = some x) : keysB (ks.take (k + 1)) = keysB (ks.take k) ++ [dig x.k 0] ++ valB x := by
  rw [List.take_add_one, hx]
  show keysB (ks.take k ++ [x]) = _
  rw [keysB_snoc]; simp [keyB]
theorem take_len {ks : Rw} {k : Nat} (h : okK (ks.take k) = true) (hl : List.length ks ≤ 2000000) : (keysB (ks.take k)).length ≤ 132000000 := by
  have := keysB_len h
  have h2 : List.length (List.take k ks) ≤ List.length ks := by rw [List.length_take]; omega
  omega
set_option maxRecDepth 100000 in
set_option maxHeartbeats 2000000 in
theorem text_any {nm : ByteArray} {v : Value} {ks : Rw} {w : World} (hv : RowAt w v ks) (hl : List.length ks ≤ 2000000) (hn : nm.size ≤ 2000000) :
    Calls Try.prog 38 #[.string nm, v] w fun e w' => e = .returned (.tuple #[.string (textV nm ks), .int .i64 (textE ks)]) ∧ Below w.heap.size w w' := by
  have HL := hid hl
  have HN := hid hn
  obtain ⟨p, cap, rfl, hcap, hmax, hx⟩ := hv
  have HX := hid hx
  clear hx hcap hl hn
  unfold maxLen at hmax
  generalize hlen : List.length ks = n at *
  have HLen := hid hlen
  clear hlen
  go_enter Try.func38, Try.ntmps38
  go_wp2
  go_loopw [6, 13] (fun b i wr => ∃ k : Nat, k ≤ n ∧ i = .int .i64 k ∧ Hid (okK (ks.take k) = true) ∧ Hid (OwnB w.heap.size wr b (keysB (ks.take k))) ∧ Hid (Fr w.heap.size w wr)) (fun _ i _ => n - (intOf i).toNat)
  case atStart => exact ⟨0, by omega, rfl, rfl, OwnB.nil _ _, Fr.refl _ _⟩
  case round =>
    obtain ⟨k, hk, rfl, HK, HO, HF⟩ := hrel
    have HT := hid (take_len HK.out (by rw [HLen.out]; exact HL.out))
    by_cases hlt : k < n
    · have hk' : k < List.length ks := by rw [HLen.out]; exact hlt
      obtain ⟨x, hxk⟩ : ∃ x, ks[k]? = some x := ⟨ks[k], List.getElem?_eq_getElem hk'⟩
      obtain ⟨b, o, rfl, -, hj⟩ := HX.out (by intro e; subst e; simp at hk')
      obtain ⟨c0, c1, c2, c3, c4, c5, c6, c7, c8, c9, c10⟩ := val_cells ((hj k x hxk).on HF.out.low)
      have HXK := hid hxk
      clear hxk hj
      have hsz : w.heap.size ≤ wr.heap.size := HF.out.size
      have HFA := hid (Fr.alloc1 hsz (.cells (vcl x) 25))
      have KB := hid (alloc_block wr (.cells (vcl x) 25))
      cases hval : validL x with
      | false =>
        have HV := hid hval
        clear hval
        go_wp2_with (first
          | (go_at_call 8; refine (put_bad HV.out).mono ?_; rintro e w1 ⟨rfl, hb1⟩))
        exact bodyPost_ret (v := .tuple #[.string (textV nm ks), .int .i64 (textE ks)]) (by simp [results, Try.results38, go_sem, textV, textE, okK_bad HXK.out HV.out]) rfl ⟨rfl, (HF.out.trans HFA.out).low.trans (hb1.mono (by rw [World.size_alloc]; omega))⟩
      | true =>
        have HV := hid hval
        clear hval
        have HVB := hid (vlB_len HV.out)
        go_wp2_with (first
          | (go_at_call 8; refine (put_ok (xs := []) (bat_nil _) HV.out (by simp) (vld_len HV.out)).mono ?_; rintro e w1 ⟨v1, rfl, hown1, hb1⟩; rw [List.nil_append] at hown1; have HO1 := hid hown1; have HB1 := hid hb1; have KB1 := hid (block_on KB.out hb1); have kb1 := block_cell KB1.out; have hf1 := hid ((HO.out.alloc (.cells (vcl x) 25)).on hb1); have LT1 := hid (hb1.size); obtain ⟨p1, q1, rfl⟩ := hown1.form; clear hown1 hb1)
          | (at_builtin; have FIRST := hf1; refine appG_any rfl _ _ rfl rfl (hf1.out.alloc _) rfl (bat_one (x := dig x.k 0) (dig_mod x.k)) (by have := HT.out; simp; omega) (by have := LT1.out; rw [World.size_alloc] at this ⊢; omega) ?_; intro v2 w2 hown2 hb2 hg2; have HO2 := hid hown2; have HF2 := hid hb2; have HG2 := hid hg2; clear hown2 hb2 hg2 hf1 FIRST)
          | (at_builtin; refine appG_any rfl _ _ rfl rfl HO2.out rfl ((own_grown (HO1.out.alloc _) HG2.out (fun g hg => Nat.lt_of_lt_of_le (own_lt HO.out g hg) (by rw [World.size_alloc]; omega))).bat) (by have := HT.out; have := HVB.out; simp; omega) (by have := LT1.out; have := HF2.out.size; rw [World.size_alloc] at this; rw [World.size_alloc] at *; omega) ?_; intro v3 w3 hown3 hb3 hg3))
        go_roundw
        case rel =>
          refine ⟨k + 1, by omega, by go_num, (okK_take HXK.out HK.out).trans HV.out, by rw [keysB_take HXK.out]; exact hown3, ?_⟩
          exact HF.out.trans (HFA.out.trans ((Fr.of HB1.out (by rw [World.size_alloc]; omega)).trans ((Fr.alloc1 (by have := LT1.out; rw [World.size_alloc] at this; omega) _).trans (HF2.out.trans hb3))))
        case measure => simp [intOf]; omega
    · have hks : k = n := by omega
      subst hks
      have hta : ks.take k = ks := List.take_of_length_le (by rw [HLen.out]; exact Nat.le_refl _)
      have HOa : Hid (OwnB w.heap.size wr u6 (keysB ks)) := by have := HO.out; rw [hta] at this; exact this
      have HKa : Hid (okK ks = true) := by have := HK.out; rw [hta] at this; exact this
      have HTa : Hid ((keysB ks).length ≤ 132000000) := by have := HT.out; rw [hta] at this; exact this
      clear hta HK HO HT
      have E1 : Hid ((⟨(keysB ks ++ [0] ++ nm.data.toList).toArray⟩ : ByteArray) = textV nm ks) := by
        show _ = _
        unfold textV
        rw [if_pos HKa.out]
        unfold txt txtL
        simp
      have E2 : Hid (textE ks = 0) := if_pos HKa.out
      obtain ⟨m3, hm3⟩ : ∃ m, (keysB ks ++ [0] ++ nm.data.toList).length = m := ⟨_, rfl⟩
      have HM3 := hid hm3
      clear hm3
      go_wp2_with (first
        | (at_builtin; have FIRST := HOa; refine appG_any rfl _ _ rfl rfl (HOa.out.alloc _) rfl (bat_one (x := 0) rfl) (by have := HTa.out; simp; omega) (by have := HF.out.size; rw [World.size_alloc]; omega) ?_; intro v2 w2 hown2 hb2 hg2; have HO2 := hid hown2; have HF2 := hid hb2; clear hown2 hb2 hg2 HOa FIRST)
        | (at_builtin; refine appS_any rfl _ _ rfl rfl HO2.out rfl (by have := HTa.out; have := HN.out; simp; omega) (by have := HF.out.size; have := HF2.out.size; rw [World.size_alloc] at this; omega) ?_; intro v3 w3 hown3 hb3; obtain ⟨p3, c3, rfl⟩ : ∃ p c, v3 = .slice p m3 c := (by obtain ⟨p, c, h⟩ := hown3.form; exact ⟨p, c, by rw [h, HM3.out]⟩); have hcv := conv_bat hown3.bat; rw [E1.out] at hcv))
      refine bodyPost_ret (v := .tuple #[.string (textV nm ks), .int .i64 (textE ks)]) (by simp [results, Try.results38, go_sem, E2.out]) rfl ⟨rfl, ?_⟩
      exact (HF.out.trans ((Fr.alloc1 HF.out.size _).trans (HF2.out.trans hb3))).low
end Go.Proofs.Ytnjeocjachmbkaa
