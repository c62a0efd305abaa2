/-
  What streams.textOf returns, for any name and any keys.
  Slices that a call makes for itself: what append and Go's slices.Clone leave.
  What Go's slices.Clone returns, for columns and for rows.
  What stays while a run grows; rows of values in blocks of their own; append and calls as steps of a region.
  How a dictionary lies in memory, and what stays while one grows.
  What New, Len, Find and Of of package streams return, for any dictionary.
-/
import Derived.Test.YtlbjbkhcnafhcaaGreatP05Take
import Derived.Test.YtlbjbkhcnafhcaaGreatQPut
import Derived.Test.YtlbjbkhcnafhcaaGreatP03CrcOwn
import Derived.Test.YtlbjbkhcnafhcaaGreatP06Shelf
import Derived.Laws.AppendOwnNone
import Derived.OwnWalk
import Derived.Lib.SmallJoins
import Derived.Deep.RegionLaw
import Derived.Lib.OwnKind
import Derived.Maps.OwnSet
namespace Go.Proofs.YtlbjbkhcnafhcaaGreat.SN
open Go.RowKit Go.Sort

def textV (nm : ByteArray) (ks : Rw) : ByteArray := if okK ks then txt ⟨nm, ks⟩ else ⟨#[]⟩
def textE (ks : Rw) : Int := if okK ks then 0 else 10
theorem appG_any {ops : Array Oper} {rest : List Oper} {o : Oper} {a : Act} {Q : Exit → Act → World → Prop} {w : World} {B : Nat} {xs ys : List UInt8} {v y : Value}
    (hgd : o.guard = none) (s x : Operand) (ho : o.op = .call { callee := .builtin .append, args := #[s, x], argTypes := #[57, 57] })
    (hs : a.eval s = v) (hown : OwnB B w v xs) (hx : a.eval x = y) (hu : BAt w y ys) (hb : xs.length + ys.length ≤ 140737488355328) (hB : B ≤ w.heap.size)
    (h : ∀ v' w', OwnB B w' v' (xs ++ ys) → Fr B w w' → w.grownBy w' v.ownBlock → wpList Tryz.prog ops Q rest (a.put o.dst v') w') : wpList Tryz.prog ops Q (o :: rest) a w := by
  obtain ⟨i0, hi, hz0, hz1, hz2⟩ := info_parts info5
  obtain ⟨p, cap, rfl, hcap, hnone, hmax, hy⟩ := hu
  cases p with
  | none =>
    have hn : ys = [] := by
      cases ys with
      | nil => rfl
      | cons y r => obtain ⟨b, hp, _⟩ := hy (by simp); cases hp
    subst hn
    have hc := hnone rfl
    subst hc
    refine wpList_append_own_none hgd s x 57 ho B 5 i0 1 Tryz.underlying57 hi v xs.length _ hs hown (by rw [hx]; rfl) ?_
    exact h v w (by rw [List.append_nil]; exact hown) (Fr.refl _ _) ⟨rfl, rfl, rfl, Nat.le_refl _, fun _ _ _ => rfl⟩
  | some ad =>
    refine wpList_append_own w hgd s x 57 ho B 5 i0 (.int .u8 0) 1 1 Tryz.underlying57 hi hz0 hz1 hz2 rfl (by omega) v xs.length _ hs hown ad ys.length cap (ys.map bc) hx (by simp) ?_ ?_ ?_ (by omega) hB ?_
    · intro j c hj
      have hne : ys ≠ [] := by intro e; subst e; simp at hj
      obtain ⟨b, hp, hcell⟩ := hy hne
      cases hp
      rw [List.getElem?_map] at hj
      cases hyj : ys[j]? with
      | none => rw [hyj] at hj; cases hj
      | some x => rw [hyj] at hj; cases hj; exact hcell j x hyj
    · intro c hc
      obtain ⟨y, _, rfl⟩ := List.mem_map.1 hc
      rfl
    · unfold maxLen; omega
    · intro v' w' h2 h3 _
      refine h v' w' ?_ (fr_grown hown h3 hB) h3
      show w'.ownsRow B 5 1 v' (xs ++ ys).length ((xs ++ ys).map bc)
      rw [List.length_append, List.map_append]; exact h2
/- Bytes of a later row stay while an earlier row grows. -/
theorem own_lt {B : Nat} {w : World} {v : Value} {xs : List UInt8} (h : OwnB B w v xs) : ∀ g, v.ownBlock = some g → g < w.heap.size := fun g hg => (World.ownsRow.lt h g hg).2
theorem own_grown {B' : Nat} {w w' : World} {v : Value} {ys : List UInt8} {row : Option Nat} (h : OwnB B' w v ys) (hg : w.grownBy w' row) (hr : ∀ g, row = some g → g < B') : OwnB B' w' v ys := by
  refine ⟨h.1, ?_⟩
  rcases h.2 with h0 | ⟨g, cap, cur, hv, hg', hblk, hc⟩
  · exact .inl h0
  · refine .inr ⟨g, cap, cur, hv, hg', (hg.block g (lt_of_block hblk) (fun e => ?_)).trans hblk, hc⟩
    have := hr g e.symm
    omega
theorem dig_mod (n : Int) : n % 256 = ((dig n 0).toNat : Int) := by rw [dig_nat]; simp
theorem okK_take {ks : Rw} {k : Nat} {x : Vl} (hx : ks[k]? = some x) (h : okK (ks.take k) = true) : okK (ks.take (k + 1)) = validL x := by
  rw [List.take_add_one, hx]
  unfold okK at *
  rw [List.all_append, h]
  simp
theorem okK_bad {ks : Rw} {k : Nat} {x : Vl} (hx : ks[k]? = some x) (h : validL x = false) : okK ks = false := by
  rw [Bool.eq_false_iff]
  intro e
  unfold okK at e
  rw [List.all_eq_true] at e
  rw [e x (List.mem_of_getElem? hx)] at h
  cases h
theorem keysB_take {ks : Rw} {k : Nat} {x : Vl} (hx : ks[k]? = some x) : keysB (ks.take (k + 1)) = keysB (ks.take k) ++ [dig x.k 0] ++ valB x := by
  rw [List.take_add_one, hx]
  show keysB (ks.take k ++ [x]) = _
  rw [keysB_snoc]; simp [keyB]
theorem take_len {ks : Rw} {k : Nat} (h : okK (ks.take k) = true) (hl : List.length ks ≤ 2000000) : (keysB (ks.take k)).length ≤ 132000000 := by
  have := keysB_len h
  have h2 : List.length (List.take k ks) ≤ List.length ks := by rw [List.length_take]; omega
  omega
set_option maxRecDepth 100000 in
set_option maxHeartbeats 2000000 in
theorem text_any {nm : ByteArray} {v : Value} {ks : Rw} {w : World} (hv : RowAt w v ks) (hl : List.length ks ≤ 2000000) (hn : nm.size ≤ 2000000) :
    Calls Tryz.prog 53 #[.string nm, v] w fun e w' => e = .returned (.tuple #[.string (textV nm ks), .int .i64 (textE ks)]) ∧ Below w.heap.size w w' := by
  have HL := hid hl
  have HN := hid hn
  obtain ⟨p, cap, rfl, hcap, hmax, hx⟩ := hv
  have HX := hid hx
  clear hx hcap hl hn
  unfold maxLen at hmax
  generalize hlen : List.length ks = n at *
  have HLen := hid hlen
  clear hlen
  go_enter Tryz.func53, Tryz.ntmps53
  go_wp2
  go_loopw [6, 13] (fun b i wr => ∃ k : Nat, k ≤ n ∧ i = .int .i64 k ∧ Hid (okK (ks.take k) = true) ∧ Hid (OwnB w.heap.size wr b (keysB (ks.take k))) ∧ Hid (Fr w.heap.size w wr)) (fun _ i _ => n - (intOf i).toNat)
  case atStart => exact ⟨0, by omega, rfl, rfl, OwnB.nil _ _, Fr.refl _ _⟩
  case round =>
    obtain ⟨k, hk, rfl, HK, HO, HF⟩ := hrel
    have HT := hid (take_len HK.out (by rw [HLen.out]; exact HL.out))
    by_cases hlt : k < n
    · have hk' : k < List.length ks := by rw [HLen.out]; exact hlt
      obtain ⟨x, hxk⟩ : ∃ x, ks[k]? = some x := ⟨ks[k], List.getElem?_eq_getElem hk'⟩
      obtain ⟨b, o, rfl, -, hj⟩ := HX.out (by intro e; subst e; simp at hk')
      obtain ⟨c0, c1, c2, c3, c4, c5, c6, c7, c8, c9, c10⟩ := val_cells ((hj k x hxk).on HF.out.low)
      have HXK := hid hxk
      clear hxk hj
      have hsz : w.heap.size ≤ wr.heap.size := HF.out.size
      have HFA := hid (Fr.alloc1 hsz (.cells (vcl x) 40))
      have KB := hid (alloc_block wr (.cells (vcl x) 40))
      cases hval : validL x with
      | false =>
        have HV := hid hval
        clear hval
        go_wp2_with (first
          | (go_at_call 78; refine (put_bad HV.out).mono ?_; rintro e w1 ⟨rfl, hb1⟩))
        exact bodyPost_ret (v := .tuple #[.string (textV nm ks), .int .i64 (textE ks)]) (by simp [results, Tryz.results53, go_sem, textV, textE, okK_bad HXK.out HV.out]) rfl ⟨rfl, (HF.out.trans HFA.out).low.trans (hb1.mono (by rw [World.size_alloc]; omega))⟩
      | true =>
        have HV := hid hval
        clear hval
        have HVB := hid (vlB_len HV.out)
        go_wp2_with (first
          | (go_at_call 78; refine (put_ok (xs := []) (bat_nil _) HV.out (by simp) (vld_len HV.out)).mono ?_; rintro e w1 ⟨v1, rfl, hown1, hb1⟩; rw [List.nil_append] at hown1; have HO1 := hid hown1; have HB1 := hid hb1; have KB1 := hid (block_on KB.out hb1); have kb1 := block_cell KB1.out; have hf1 := hid ((HO.out.alloc (.cells (vcl x) 40)).on hb1); have LT1 := hid (hb1.size); obtain ⟨p1, q1, rfl⟩ := hown1.form; clear hown1 hb1)
          | (at_builtin; have FIRST := hf1; refine appG_any rfl _ _ rfl rfl (hf1.out.alloc _) rfl (bat_one (x := dig x.k 0) (dig_mod x.k)) (by have := HT.out; simp; omega) (by have := LT1.out; rw [World.size_alloc] at this ⊢; omega) ?_; intro v2 w2 hown2 hb2 hg2; have HO2 := hid hown2; have HF2 := hid hb2; have HG2 := hid hg2; clear hown2 hb2 hg2 hf1 FIRST)
          | (at_builtin; refine appG_any rfl _ _ rfl rfl HO2.out rfl ((own_grown (HO1.out.alloc _) HG2.out (fun g hg => Nat.lt_of_lt_of_le (own_lt HO.out g hg) (by rw [World.size_alloc]; omega))).bat) (by have := HT.out; have := HVB.out; simp; omega) (by have := LT1.out; have := HF2.out.size; rw [World.size_alloc] at this; rw [World.size_alloc] at *; omega) ?_; intro v3 w3 hown3 hb3 hg3))
        go_roundw
        case rel =>
          refine ⟨k + 1, by omega, by go_num, (okK_take HXK.out HK.out).trans HV.out, by rw [keysB_take HXK.out]; exact hown3, ?_⟩
          exact HF.out.trans (HFA.out.trans ((Fr.of HB1.out (by rw [World.size_alloc]; omega)).trans ((Fr.alloc1 (by have := LT1.out; rw [World.size_alloc] at this; omega) _).trans (HF2.out.trans hb3))))
        case measure => simp [intOf]; omega
    · have hks : k = n := by omega
      subst hks
      have hta : ks.take k = ks := List.take_of_length_le (by rw [HLen.out]; exact Nat.le_refl _)
      have HOa : Hid (OwnB w.heap.size wr u6 (keysB ks)) := by have := HO.out; rw [hta] at this; exact this
      have HKa : Hid (okK ks = true) := by have := HK.out; rw [hta] at this; exact this
      have HTa : Hid ((keysB ks).length ≤ 132000000) := by have := HT.out; rw [hta] at this; exact this
      clear hta HK HO HT
      have E1 : Hid ((⟨(keysB ks ++ [0] ++ nm.data.toList).toArray⟩ : ByteArray) = textV nm ks) := by
        show _ = _
        unfold textV
        rw [if_pos HKa.out]
        unfold txt txtL
        simp
      have E2 : Hid (textE ks = 0) := if_pos HKa.out
      obtain ⟨m3, hm3⟩ : ∃ m, (keysB ks ++ [0] ++ nm.data.toList).length = m := ⟨_, rfl⟩
      have HM3 := hid hm3
      clear hm3
      go_wp2_with (first
        | (at_builtin; have FIRST := HOa; refine appG_any rfl _ _ rfl rfl (HOa.out.alloc _) rfl (bat_one (x := 0) rfl) (by have := HTa.out; simp; omega) (by have := HF.out.size; rw [World.size_alloc]; omega) ?_; intro v2 w2 hown2 hb2 hg2; have HO2 := hid hown2; have HF2 := hid hb2; clear hown2 hb2 hg2 HOa FIRST)
        | (at_builtin; refine appS_any rfl _ _ rfl rfl HO2.out rfl (by have := HTa.out; have := HN.out; simp; omega) (by have := HF.out.size; have := HF2.out.size; rw [World.size_alloc] at this; omega) ?_; intro v3 w3 hown3 hb3; obtain ⟨p3, c3, rfl⟩ : ∃ p c, v3 = .slice p m3 c := (by obtain ⟨p, c, h⟩ := hown3.form; exact ⟨p, c, by rw [h, HM3.out]⟩); have hcv := conv_bat hown3.bat; rw [E1.out] at hcv))
      refine bodyPost_ret (v := .tuple #[.string (textV nm ks), .int .i64 (textE ks)]) (by simp [results, Tryz.results53, go_sem, E2.out]) rfl ⟨rfl, ?_⟩
      exact (HF.out.trans ((Fr.alloc1 HF.out.size _).trans (HF2.out.trans hb3))).low
end Go.Proofs.YtlbjbkhcnafhcaaGreat.SN
namespace Go.Proofs.YtlbjbkhcnafhcaaGreat
open Go.RowKit Go.Sort Go.Shelf

section
variable {α : Type} {enc : α → List Value} {k : Nat}
theorem flat_get (hk : ∀ x, (enc x).length = k) : ∀ (xs : List α) (j : Nat) x, xs[j]? = some x → ∀ (i : Nat) u, (enc x)[i]? = some u → (xs.flatMap enc)[j * k + i]? = some u
  | [], _, _, h, _, _, _ => by simp at h
  | y :: ys, 0, x, h, i, u, hi => by
    simp at h; subst h
    rw [List.flatMap_cons, Nat.zero_mul, Nat.zero_add, List.getElem?_append_left (by exact (List.getElem?_eq_some_iff.1 hi).1)]
    exact hi
  | y :: ys, j + 1, x, h, i, u, hi => by
    have ih := flat_get hk ys j x (by simpa using h) i u hi
    have e : (j + 1) * k + i = k + (j * k + i) := by rw [Nat.succ_mul]; omega
    rw [List.flatMap_cons, List.getElem?_append_right (by rw [hk]; omega), hk, e, Nat.add_sub_cancel_left]
    exact ih
theorem flat_cells (hk : ∀ x, (enc x).length = k) {w : World} {b : Nat} : ∀ (xs : List α) (o : Nat), (∀ (j : Nat) x, xs[j]? = some x → CellsAt w b (o + j * k) (enc x)) → CellsAt w b o (xs.flatMap enc)
  | [], _, _ => fun j u h => by simp at h
  | y :: ys, o, h => fun j u hj => by
    rw [List.flatMap_cons] at hj
    by_cases hlt : j < k
    · rw [List.getElem?_append_left (by rw [hk]; exact hlt)] at hj
      have := h 0 y rfl j u hj
      rwa [Nat.zero_mul, Nat.add_zero] at this
    · rw [List.getElem?_append_right (by rw [hk]; omega), hk] at hj
      have ih := flat_cells hk ys (o + k) (fun i x hx => by
        have := h (i + 1) x (by simpa using hx)
        have e : o + (i + 1) * k = o + k + i * k := by rw [Nat.succ_mul]; omega
        rwa [e] at this) (j - k) u hj
      have e : o + k + (j - k) = o + j := by omega
      rwa [e] at ih
theorem flat_length (hk : ∀ x, (enc x).length = k) (xs : List α) : (xs.flatMap enc).length = xs.length * k := by
  induction xs with
  | nil => simp
  | cons y ys ih => rw [List.flatMap_cons, List.length_append, hk, ih, List.length_cons, Nat.succ_mul]; omega
end
theorem vl_len (x : Vl) : x.cells.length = 11 := rfl
theorem cl_len (x : Cl) : x.cells.length = 2 := rfl
theorem one_len (x : Value) : (one x).length = 1 := rfl
/- What the program's table of types says of an element's type. -/
def Elem (t e k : Nat) : Prop := Tryz.prog.underlying t = some (.slice e) ∧ 0 < k ∧ ∃ i z, Tryz.prog.info? e = some i ∧ i.zero = some z ∧ i.size = k ∧ i.bytes ≤ bsz k ∧ z.cells.size = k
theorem info48 : (Tryz.prog.info? 40).map (fun i => (i.zero, i.size, i.bytes)) = some (some (V 0 0 ⟨#[]⟩ 0 0 0 0 0 0 0 0), 11, 96) := by kernel_rfl
theorem info45 : (Tryz.prog.info? 90).map (fun i => (i.zero, i.size, i.bytes)) = some (some (.agg #[.string ⟨#[]⟩, .int .i64 0]), 2, 24) := by kernel_rfl
theorem info35 : (Tryz.prog.info? 32).map (fun i => (i.zero, i.size, i.bytes)) = some (some (.slice none 0 0), 1, 24) := by kernel_rfl
theorem elem48 : Elem 32 40 11 := by
  obtain ⟨i, hi, h0, h1, h2⟩ := info_parts info48
  exact ⟨Tryz.underlying32, by omega, i, _, hi, h0, h1, Nat.le_of_eq h2, rfl⟩
theorem elem45 : Elem 41 90 2 := by
  obtain ⟨i, hi, h0, h1, h2⟩ := info_parts info45
  exact ⟨Tryz.underlying41, by omega, i, _, hi, h0, h1, Nat.le_of_eq h2, rfl⟩
theorem elem35 : Elem 42 32 1 := by
  obtain ⟨i, hi, h0, h1, h2⟩ := info_parts info35
  exact ⟨Tryz.underlying42, by omega, i, _, hi, h0, h1, Nat.le_of_eq h2, rfl⟩
theorem info3 : (Tryz.prog.info? 3).map (fun i => (i.zero, i.size, i.bytes)) = some (some (.int .i64 0), 1, 8) := by kernel_rfl
theorem info9 : (Tryz.prog.info? 9).map (fun i => (i.zero, i.size, i.bytes)) = some (some (.string ⟨#[]⟩), 1, 16) := by kernel_rfl
theorem elem3 : Elem 54 3 1 := by
  obtain ⟨i, hi, h0, h1, h2⟩ := info_parts info3
  exact ⟨Tryz.underlying54, by omega, i, _, hi, h0, h1, by rw [h2]; decide, rfl⟩
theorem elem9 : Elem 153 9 1 := by
  obtain ⟨i, hi, h0, h1, h2⟩ := info_parts info9
  exact ⟨Tryz.underlying153, by omega, i, _, hi, h0, h1, by rw [h2]; decide, rfl⟩
/- A slice of the call's own, of these elements. -/
def Own {α : Type} (enc : α → List Value) (k e : Nat) (B : Nat) (w : World) (v : Value) (xs : List α) : Prop := w.ownsRow B e k v xs.length (xs.flatMap enc)
theorem Own.sl {α : Type} {enc : α → List Value} {k e B : Nat} {w : World} {v : Value} {xs : List α} (h : Own enc k e B w v xs) (hk : ∀ x, (enc x).length = k) (hb : xs.length * bsz k ≤ 140737488355328) : SlAt (fun b => B ≤ b) enc k w v xs := by
  have hm : xs.length ≤ maxLen := by
    unfold maxLen; unfold bsz at hb; split at hb <;> omega
  rcases h.2 with ⟨hv, h0⟩ | ⟨g, cap, cur, hv, hg, hblk, hc, _⟩
  · have hn : xs = [] := List.eq_nil_of_length_eq_zero h0
    subst hn
    exact ⟨none, 0, hv, ⟨by simp, fun _ => rfl⟩, hm, fun hne => absurd rfl hne⟩
  · refine ⟨some ⟨g, 0, none⟩, cap, hv, ⟨hc, fun e => by cases e⟩, hm, fun _ => ⟨g, 0, rfl, ⟨hg, hb⟩, fun j x hx i u hi => ?_⟩⟩
    have := World.ownsRow.cells h (g := g) (by rw [hv]; rfl) (j * k + i) u (flat_get hk xs j x hx i u hi)
    rw [Addr.add_lit, Nat.zero_add] at this
    rw [Nat.zero_add]
    exact this
theorem Own.nil {α : Type} (enc : α → List Value) (k e B : Nat) (w : World) : Own enc k e B w (.slice none 0 0) ([] : List α) := World.ownsRow_nil w B e k
theorem Own.made {α : Type} (enc : α → List Value) (k e B : Nat) (w : World) (hb : B ≤ w.heap.size) : Own enc k e B (w.alloc (.cells #[] e)) (.slice (some ⟨w.heap.size, 0, none⟩) 0 0) ([] : List α) :=
  World.ownsRow_made w #[] 0 hb (Nat.zero_le _) (by simp)
theorem Own.lt {α : Type} {enc : α → List Value} {k e B : Nat} {w : World} {v : Value} {xs : List α} (h : Own enc k e B w v xs) : ∀ g, v.ownBlock = some g → B ≤ g := fun g hg => (World.ownsRow.lt h g hg).1
/- append(s, x...): s of the call's own, x any slice. -/
theorem app_any {ops : Array Oper} {rest : List Oper} {o : Oper} {a : Act} {Q : Exit → Act → World → Prop} {w : World} {α : Type} {enc : α → List Value} {k e t B : Nat} {Qb : Nat → Prop} {xs ys : List α} {v u : Value}
    (hE : Elem t e k) (hk : ∀ x, (enc x).length = k) (h1 : ∀ y ∈ ys, ∀ c ∈ enc y, c.oneCell' = true) (hgd : o.guard = none) (s x : Operand) (ho : o.op = .call { callee := .builtin .append, args := #[s, x], argTypes := #[t, t] })
    (hs : a.eval s = v) (hown : Own enc k e B w v xs) (hx : a.eval x = u) (hu : SlAt Qb enc k w u ys) (hb : (xs.length + ys.length) * bsz k ≤ 140737488355328) (hB : B ≤ w.heap.size)
    (h : ∀ v' w', Own enc k e B w' v' (xs ++ ys) → Below B w w' → wpList Tryz.prog ops Q rest (a.put o.dst v') w') : wpList Tryz.prog ops Q (o :: rest) a w := by
  obtain ⟨ht, hkp, i0, z, hi, hz0, hz1, hz2, hzs⟩ := hE
  obtain ⟨p, cap, rfl, ⟨hcap, hnone⟩, hmax, hy⟩ := hu
  cases p with
  | none =>
    have hn : ys = [] := by
      cases ys with
      | nil => rfl
      | cons y r => obtain ⟨b, o, hp, _⟩ := hy (by simp); cases hp
    subst hn
    have hc := hnone rfl
    subst hc
    refine wpList_append_own_none hgd s x t ho B e i0 k ht hi v xs.length _ hs hown (by rw [hx]; rfl) ?_
    have := h v w (by rw [List.append_nil]; exact hown) (Below.refl _ _)
    exact this
  | some ad =>
    refine wpList_append_own w hgd s x t ho B e i0 z k i0.bytes ht hi hz0 hz1 rfl hzs hkp v xs.length _ hs hown ad ys.length cap (ys.flatMap enc) hx (flat_length hk ys) ?_ ?_ ?_ (Nat.le_trans (Nat.mul_le_mul_left _ hz2) hb) hB ?_
    · intro j c hj
      have hne : ys ≠ [] := by intro e; subst e; simp at hj
      obtain ⟨b, o, hp, _, hcell⟩ := hy hne
      have hp' : ad = ⟨b, o, none⟩ := Option.some.inj hp
      rw [hp', Addr.add_lit]
      exact flat_cells hk ys o hcell j c hj
    · intro c hc
      obtain ⟨y, hy', hcy⟩ := List.mem_flatMap.1 hc
      exact h1 y hy' c hcy
    · unfold maxLen; unfold bsz at hb; split at hb <;> omega
    · intro v' w' h2 h3 _
      refine h v' w' ?_ ((Below.refl B w).grown h3 hB (fun j e => (hown.lt j e)))
      show w'.ownsRow B e k v' (xs ++ ys).length ((xs ++ ys).flatMap enc)
      rw [List.length_append, List.flatMap_append]; exact h2
theorem vl_cells (x : Vl) : ∀ c ∈ x.cells, c.oneCell' = true := by
  intro c hc; simp [Vl.cells] at hc; rcases hc with rfl | rfl | rfl | rfl | rfl | rfl | rfl | rfl | rfl | rfl | rfl <;> rfl
theorem cl_cells (x : Cl) : ∀ c ∈ x.cells, c.oneCell' = true := by
  intro c hc; simp [Cl.cells] at hc; rcases hc with rfl | rfl <;> rfl
end Go.Proofs.YtlbjbkhcnafhcaaGreat
namespace Go.Proofs.YtlbjbkhcnafhcaaGreat
open Go.RowKit Go.Sort Go.Shelf

theorem SlAt.bound {α : Type} {Q : Nat → Prop} {enc : α → List Value} {k : Nat} {w : World} {v : Value} {xs : List α} (h : SlAt Q enc k w v xs) : xs.length * bsz k ≤ 140737488355328 := by
  obtain ⟨p, cap, _, _, _, hx⟩ := h
  by_cases hn : xs = []
  · subst hn; simp
  · obtain ⟨_, _, _, hb, _⟩ := hx hn; exact hb.2
theorem SlAt.nil {α : Type} (Q : Nat → Prop) (enc : α → List Value) (k : Nat) (w : World) : SlAt Q enc k w (.slice none 0 0) ([] : List α) :=
  ⟨none, 0, rfl, ⟨Nat.le_refl _, fun _ => rfl⟩, Nat.zero_le _, fun h => absurd rfl h⟩
theorem SlAt.empty {α : Type} {Q : Nat → Prop} {enc : α → List Value} {k : Nat} {w : World} {cap : Nat} {xs : List α} {n : Nat} (h : SlAt Q enc k w (.slice none n cap) xs) : xs = [] := by
  obtain ⟨p, cap', hv, _, _, hx⟩ := h
  by_cases hn : xs = []
  · exact hn
  · obtain ⟨b, o, hp, _⟩ := hx hn
    subst hp; cases hv
set_option maxHeartbeats 400000 in
theorem cloneV_any {u : Value} {r : Rw} {w : World} (hu : RowAt w u r) :
    Calls Tryz.prog 54 #[u] w fun e w' => ∃ v', e = .returned v' ∧ RowIn (fun b => w.heap.size ≤ b) w' v' r ∧ Below w.heap.size w w' := by
  have HU := hid hu
  obtain ⟨p, cap, rfl, hcap, hmax, hx⟩ := hu
  clear hcap hmax hx
  generalize List.length r = n at *
  have q22 : ∀ (w : World) (a : Option Addr) (n c n' c' : Nat), (binOp .eql 32 (.slice a n c) (.slice none n' c')).run Tryz.prog w = .ok (.bool a.isNone) w := fun w a n c n' c' => Lib.run_eql_slice_nil w _ _ a n c n' c' Tryz.underlying32
  cases p with
  | none =>
    have hn := SlAt.empty HU.out
    subst hn
    go_enter Tryz.func54, Tryz.ntmps54
    go_wp2
    go_ret
    exact ⟨_, rfl, SlAt.nil _ _ _ _, Below.refl _ _⟩
  | some ad =>
    go_enter Tryz.func54, Tryz.ntmps54
    go_wp2_with (at_builtin; refine app_any elem48 vl_len (fun x _ => vl_cells x) rfl _ _ rfl rfl (Own.made Vl.cells 11 40 w.heap.size w (Nat.le_refl _)) rfl (SlAt.on HU.out ((Below.refl _ _).alloc (Nat.le_refl _) _)) (by simpa using SlAt.bound HU.out) (by simp) ?_; intro v' w1 hown hb1)
    go_ret
    exact ⟨_, rfl, Own.sl (by rw [List.nil_append] at hown; exact hown) vl_len (SlAt.bound HU.out), ((Below.refl _ _).alloc (Nat.le_refl _) _).trans hb1⟩
set_option maxHeartbeats 400000 in
theorem cloneC_any {u : Value} {r : List Cl} {w : World} (hu : ColsAt w u r) :
    Calls Tryz.prog 45 #[u] w fun e w' => ∃ v', e = .returned v' ∧ SlAt (fun b => w.heap.size ≤ b) Cl.cells 2 w' v' r ∧ Below w.heap.size w w' := by
  have HU := hid hu
  obtain ⟨p, cap, rfl, hcap, hmax, hx⟩ := hu
  clear hcap hmax hx
  generalize List.length r = n at *
  have q22 : ∀ (w : World) (a : Option Addr) (n c n' c' : Nat), (binOp .eql 41 (.slice a n c) (.slice none n' c')).run Tryz.prog w = .ok (.bool a.isNone) w := fun w a n c n' c' => Lib.run_eql_slice_nil w _ _ a n c n' c' Tryz.underlying41
  cases p with
  | none =>
    have hn := SlAt.empty HU.out
    subst hn
    go_enter Tryz.func45, Tryz.ntmps45
    go_wp2
    go_ret
    exact ⟨_, rfl, SlAt.nil _ _ _ _, Below.refl _ _⟩
  | some ad =>
    go_enter Tryz.func45, Tryz.ntmps45
    go_wp2_with (at_builtin; refine app_any elem45 cl_len (fun x _ => cl_cells x) rfl _ _ rfl rfl (Own.made Cl.cells 2 90 w.heap.size w (Nat.le_refl _)) rfl (SlAt.on HU.out ((Below.refl _ _).alloc (Nat.le_refl _) _)) (by simpa using SlAt.bound HU.out) (by simp) ?_; intro v' w1 hown hb1)
    go_ret
    exact ⟨_, rfl, Own.sl (by rw [List.nil_append] at hown; exact hown) cl_len (SlAt.bound HU.out), ((Below.refl _ _).alloc (Nat.le_refl _) _).trans hb1⟩
end Go.Proofs.YtlbjbkhcnafhcaaGreat
namespace Go.Proofs.YtlbjbkhcnafhcaaGreat
open Go.RowKit Go.Sort

/- What was there stays, but for the blocks of which T holds. -/
structure Kp (T : Nat → Prop) (w w' : World) : Prop where
  os : w'.os = w.os
  tape : w'.tape = w.tape
  output : w'.output = w.output
  size : w.heap.size ≤ w'.heap.size
  block : ∀ k, k < w.heap.size → ¬ T k → w'.heap[k]? = w.heap[k]?
theorem Kp.refl (T : Nat → Prop) (w : World) : Kp T w w := ⟨rfl, rfl, rfl, Nat.le_refl _, fun _ _ _ => rfl⟩
theorem Kp.of {T : Nat → Prop} {w w' : World} (h : Below w.heap.size w w') : Kp T w w' := ⟨h.os, h.tape, h.output, h.size, fun k hk _ => h.block k hk⟩
theorem Kp.below {T : Nat → Prop} {w w' : World} {B : Nat} (h : Kp T w w') (hB : B ≤ w.heap.size) (hT : ∀ k, T k → B ≤ k) : Below B w w' :=
  ⟨h.os, h.tape, h.output, h.size, fun k hk => h.block k (Nat.lt_of_lt_of_le hk hB) (fun t => by have := hT k t; omega)⟩
theorem Kp.trans {T : Nat → Prop} {a b c : World} (h : Kp T a b) (k : Kp T b c) : Kp T a c :=
  ⟨k.os.trans h.os, k.tape.trans h.tape, k.output.trans h.output, Nat.le_trans h.size k.size, fun i hi ht => (k.block i (Nat.lt_of_lt_of_le hi h.size) ht).trans (h.block i hi ht)⟩
theorem Kp.trans' {T T' : Nat → Prop} {a b c : World} (h : Kp T a b) (k : Kp T' b c) (ht : ∀ i, i < a.heap.size → T' i → T i) : Kp T a c :=
  ⟨k.os.trans h.os, k.tape.trans h.tape, k.output.trans h.output, Nat.le_trans h.size k.size, fun i hi hn => (k.block i (Nat.lt_of_lt_of_le hi h.size) (fun x => hn (ht i hi x))).trans (h.block i hi hn)⟩
theorem Kp.grown {T : Nat → Prop} {w w' : World} {row : Option Nat} (hg : w.grownBy w' row) (hr : ∀ k, row = some k → T k) : Kp T w w' :=
  ⟨hg.os, hg.tape, hg.output, hg.size, fun k hk ht => hg.block k hk (fun e => ht (hr k e.symm))⟩
theorem Kp.set {T : Nat → Prop} {w : World} {b i : Nat} (hT : T b) (u : Value) : Kp T w (w.setCell ⟨b, i, none⟩ u) :=
  ⟨rfl, rfl, rfl, by simp [World.setCell], fun k _ ht => Below.heap_setCell _ _ _ _ (fun e => ht (by rw [e]; exact hT))⟩
theorem Kp.blk {T : Nat → Prop} {w w' : World} {k : Nat} {o : Obj} (h : Kp T w w') (hk : w.heap[k]? = some o) (ht : ¬ T k) : w'.heap[k]? = some o := (h.block k (lt_of_block hk) ht).trans hk

/- A block of values, of which P holds. -/
def ty36 (P : Nat → Prop) (w : World) (k : Nat) : Prop := P k ∧ ∃ (c : Array Value) (fz : { z : Nat × Nat // z = (0, 0) }), w.heap[k]? = some (.cells c 40 fz.1)
theorem ty_kp {P T : Nat → Prop} {w w' : World} {k : Nat} (h : ty36 P w k) (hk : Kp T w w') (ht : ¬ T k) : ty36 P w' k := let ⟨p, c, fz, hc⟩ := h; ⟨p, c, fz, hk.blk hc ht⟩
theorem row_kp {P T : Nat → Prop} {w w' : World} {v : Value} {r : Rw} (h : RowIn (ty36 P w) w v r) (hk : Kp T w w') (ht : ∀ k, ty36 P w k → ¬ T k) : RowIn (ty36 P w') w' v r := by
  obtain ⟨p, cap, hv, hc, hm, hx⟩ := h
  refine ⟨p, cap, hv, hc, hm, fun hn => ?_⟩
  obtain ⟨b, o, hp, hQ, hj⟩ := hx hn
  have hb : w'.heap[b]? = w.heap[b]? := by
    obtain ⟨-, c, fz, hc⟩ := hQ.1
    exact hk.block b (lt_of_block hc) (ht b hQ.1)
  exact ⟨b, o, hp, ⟨ty_kp hQ.1 hk (ht b hQ.1), hQ.2⟩, fun j x hjx i u hu => (World.cell?_of_block (a := ⟨b, o + j * 11 + i, none⟩) hb).trans (hj j x hjx i u hu)⟩
theorem row_P {P P' : Nat → Prop} {w : World} {v : Value} {r : Rw} (h : RowIn (ty36 P w) w v r) (hp : ∀ k, k < w.heap.size → P k → P' k) : RowIn (ty36 P' w) w v r := h.imp (fun b hb => ⟨hp b (by obtain ⟨-, c, fz, hc⟩ := hb; exact lt_of_block hc) hb.1, hb.2⟩)
theorem own_kp {α : Type} {enc : α → List Value} {k e B : Nat} {T : Nat → Prop} {w w' : World} {v : Value} {xs : List α} (h : Own enc k e B w v xs) (hk : Kp T w w') (ht : ∀ g, v.ownBlock = some g → ¬ T g) : Own enc k e B w' v xs := by
  refine ⟨h.1, ?_⟩
  rcases h.2 with h0 | ⟨g, cap, cur, hv, hg, hblk, hc⟩
  · exact .inl h0
  · exact .inr ⟨g, cap, cur, hv, hg, hk.blk hblk (ht g (by rw [hv]; rfl)), hc⟩
theorem own_le {α : Type} {enc : α → List Value} {k e B B' : Nat} {w : World} {v : Value} {xs : List α} (h : Own enc k e B w v xs) (hb : B' ≤ B) : Own enc k e B' w v xs := by
  refine ⟨h.1, ?_⟩
  rcases h.2 with h0 | ⟨g, cap, cur, hv, hg, hblk, hc⟩
  · exact .inl h0
  · exact .inr ⟨g, cap, cur, hv, Nat.le_trans hb hg, hblk, hc⟩
theorem own_at {α : Type} {enc : α → List Value} {k e B : Nat} {w : World} {v : Value} {xs : List α} (h : Own enc k e B w v xs) {g : Nat} (hg : v.ownBlock = some g) : B ≤ g ∧ g < w.heap.size := World.ownsRow.lt h g hg
theorem own_kind {α : Type} {enc : α → List Value} {k e B : Nat} {w : World} {v : Value} {xs : List α} (h : Own enc k e B w v xs) {g : Nat} (hg : v.ownBlock = some g) : ∃ c fz, w.heap[g]? = some (.cells c e fz) := Lib.ownsRow_kind h g hg
theorem own_formN {α : Type} {enc : α → List Value} {k e B n : Nat} {w : World} {v : Value} {xs : List α} (h : Own enc k e B w v xs) (hn : xs.length = n) : ∃ p c, v = .slice p n c := by
  subst hn
  rcases h.2 with ⟨hv, h0⟩ | ⟨g, cap, cur, hv, hg, hblk, q⟩
  · exact ⟨none, 0, by rw [hv, h0]⟩
  · exact ⟨_, cap, hv⟩
/- append onto a row of the call's own, whatever its elements' size. -/
def ElemN (t e k N : Nat) : Prop := Tryz.prog.underlying t = some (.slice e) ∧ 0 < k ∧ ∃ i z, Tryz.prog.info? e = some i ∧ i.zero = some z ∧ i.size = k ∧ i.bytes ≤ N ∧ z.cells.size = k
theorem Elem.N {t e k : Nat} (h : Elem t e k) : ElemN t e k (bsz k) := h
theorem step_appN {ops : Array Oper} {o : Oper} {a : Act} {w : World} {K : Act → World → Prop} {Q : Exit → Act → World → Prop} {E : Prop} {α : Type} {enc : α → List Value} {k e t B N : Nat} {Qb : Nat → Prop} {xs ys : List α} {v u : Value}
    (hE : ElemN t e k N) (hk : ∀ x, (enc x).length = k) (h1 : ∀ y ∈ ys, ∀ c ∈ enc y, c.oneCell' = true) (hgd : o.guard = none) (s x : Operand) (ho : o.op = .call { callee := .builtin .append, args := #[s, x], argTypes := #[t, t] })
    (hs : a.eval s = v) (hx : a.eval x = u) (hown : Own enc k e B w v xs) (hu : SlAt Qb enc k w u ys) (hb : (xs.length + ys.length) * N ≤ 140737488355328) (hN : 1 ≤ N) (hB : B ≤ w.heap.size)
    (h : ∀ v' w', Own enc k e B w' v' (xs ++ ys) → w.grownBy w' v.ownBlock → K (a.put o.dst v') w') : if Region.wanted o (yielded ops a.tmps) = true then Oper.wp Tryz.prog o a w K Q else E := by
  have hw : Region.wanted o (yielded ops a.tmps) = true := by simp [Region.wanted, hgd]
  rw [if_pos hw]
  obtain ⟨ht, hkp, i0, z, hi, hz0, hz1, hz2, hzs⟩ := hE
  obtain ⟨p, cap, rfl, ⟨hcap, hnone⟩, hmax, hy⟩ := hu
  cases p with
  | none =>
    have hn : ys = [] := by
      cases ys with
      | nil => rfl
      | cons y r => obtain ⟨b, o, hp, _⟩ := hy (by simp); cases hp
    subst hn
    have hc := hnone rfl
    subst hc
    have hrun := run_append_owned_none (P := Tryz.prog) (w := w) B t o.type e i0 k ht hi v xs.length _ hown
    have hx' : a.eval x = .slice none 0 0 := by rw [hx]; rfl
    unfold Oper.wp
    simp [execOp, ho, resolve, invoke, builtin, hs, hx', hrun, Result.andThen]
    exact h v w (by rw [List.append_nil]; exact hown) ⟨rfl, rfl, rfl, Nat.le_refl _, fun _ _ _ => rfl⟩
  | some ad =>
    refine wp_append_own w s x t ho B e i0 z k i0.bytes ht hi hz0 hz1 rfl hzs hkp v xs.length _ hs hown ad ys.length cap (ys.flatMap enc) hx (flat_length hk ys) ?_ ?_ ?_ (Nat.le_trans (Nat.mul_le_mul_left _ hz2) hb) hB ?_
    · intro j c hj
      have hne : ys ≠ [] := by intro e; subst e; simp at hj
      obtain ⟨b, o, hp, _, hcell⟩ := hy hne
      have hp' : ad = ⟨b, o, none⟩ := Option.some.inj hp
      rw [hp', Addr.add_lit]
      exact flat_cells hk ys o hcell j c hj
    · intro c hc
      obtain ⟨y, hy', hcy⟩ := List.mem_flatMap.1 hc
      exact h1 y hy' c hcy
    · have : (xs.length + ys.length) * 1 ≤ (xs.length + ys.length) * N := Nat.mul_le_mul_left _ hN
      unfold maxLen; omega
    · intro v' w' h2 h3 h4
      refine h v' w' ?_ h3
      show w'.ownsRow B e k v' (xs ++ ys).length ((xs ++ ys).flatMap enc)
      rw [List.length_append, List.flatMap_append]; exact h2
theorem step_callC {ops : Array Oper} {o : Oper} {a : Act} {w : World} {K : Act → World → Prop} {Q : Exit → Act → World → Prop} {E : Prop} {f : FuncId} {v : Value} (hgd : o.guard = none) (x : Operand) (t : TypeId)
    (ho : o.op = .call { callee := .value (.func f), args := #[x], argTypes := #[t] }) (hx : a.eval x = v) (hen : ∀ args w, (callFunc f args).run Tryz.prog w = .ok (.enter f args) w)
    (hc : Calls Tryz.prog f #[v] w fun e w' => ∃ u, e = .returned u ∧ K (a.put o.dst u) w') : if Region.wanted o (yielded ops a.tmps) = true then Oper.wp Tryz.prog o a w K Q else E := by
  have hw : Region.wanted o (yielded ops a.tmps) = true := by simp [Region.wanted, hgd]
  rw [if_pos hw]
  unfold Oper.wp
  have hr : (execOp a.eval o).run Tryz.prog w = .ok (.enter f #[v]) w := by
    simp [execOp, ho, resolve, invoke, hen, go_sem]
    rw [← hx]
    cases x <;> simp [Act.eval]
  rw [hr, Oper.upon_enter]
  refine hc.mono ?_
  rintro e w' ⟨u, rfl, hk⟩
  exact hk
theorem own_rowT {P : Nat → Prop} {B : Nat} {w : World} {v : Value} {r : Rw} (h : Own Vl.cells 11 40 B w v r) (hP : ∀ k, B ≤ k → P k) (hl : List.length r * bsz 11 ≤ 140737488355328) : RowIn (ty36 P w) w v r := by
  have h0 := Own.sl h vl_len hl
  obtain ⟨p, cap, hv, hc, hm, hx⟩ := h0
  refine ⟨p, cap, hv, hc, hm, fun hn => ?_⟩
  obtain ⟨b, o, hp, hQ, hj⟩ := hx hn
  refine ⟨b, o, hp, ⟨⟨hP b hQ.1, ?_⟩, hQ.2⟩, hj⟩
  rcases h.2 with ⟨_, h1⟩ | ⟨g, cap', cur, hv', hg, hblk, q⟩
  · exact absurd (List.eq_nil_of_length_eq_zero h1) hn
  · rw [hv, hp] at hv'
    cases hv'
    exact ⟨_, ⟨(0, 0), rfl⟩, hblk⟩
theorem app_N {ops : Array Oper} {rest : List Oper} {o : Oper} {a : Act} {Q : Exit → Act → World → Prop} {w : World} {α : Type} {enc : α → List Value} {k e t B N : Nat} {Qb : Nat → Prop} {xs ys : List α} {v u : Value}
    (hE : ElemN t e k N) (hk : ∀ x, (enc x).length = k) (h1 : ∀ y ∈ ys, ∀ c ∈ enc y, c.oneCell' = true) (hgd : o.guard = none) (s x : Operand) (ho : o.op = .call { callee := .builtin .append, args := #[s, x], argTypes := #[t, t] })
    (hs : a.eval s = v) (hown : Own enc k e B w v xs) (hx : a.eval x = u) (hu : SlAt Qb enc k w u ys) (hb : (xs.length + ys.length) * N ≤ 140737488355328) (hN : 1 ≤ N) (hB : B ≤ w.heap.size)
    (h : ∀ v' w', Own enc k e B w' v' (xs ++ ys) → w.grownBy w' v.ownBlock → wpList Tryz.prog ops Q rest (a.put o.dst v') w') : wpList Tryz.prog ops Q (o :: rest) a w := by
  refine wpList_plain hgd fun K hK => ?_
  have := step_appN (ops := ops) (K := K) (Q := Q) (E := True) hE hk h1 hgd s x ho hs hx hown hu hb hN hB (fun v' w' h2 h3 => hK _ _ (h v' w' h2 h3))
  have hw : Region.wanted o (yielded ops a.tmps) = true := by simp [Region.wanted, hgd]
  rw [if_pos hw] at this
  exact this
theorem step_call3 {ops : Array Oper} {o : Oper} {a : Act} {w : World} {K : Act → World → Prop} {Q : Exit → Act → World → Prop} {E : Prop} {f : FuncId} {v v2 v3 : Value} (hgd : o.guard = none) (x y z : Operand) (t t2 t3 : TypeId)
    (ho : o.op = .call { callee := .value (.func f), args := #[x, y, z], argTypes := #[t, t2, t3] }) (hx : a.eval x = v) (hy : a.eval y = v2) (hz : a.eval z = v3) (hen : ∀ args w, (callFunc f args).run Tryz.prog w = .ok (.enter f args) w)
    (hc : Calls Tryz.prog f #[v, v2, v3] w fun e w' => ∃ u, e = .returned u ∧ K (a.put o.dst u) w') : if Region.wanted o (yielded ops a.tmps) = true then Oper.wp Tryz.prog o a w K Q else E := by
  have hw : Region.wanted o (yielded ops a.tmps) = true := by simp [Region.wanted, hgd]
  rw [if_pos hw]
  unfold Oper.wp
  have hr : (execOp a.eval o).run Tryz.prog w = .ok (.enter f #[v, v2, v3]) w := by
    simp [execOp, ho, resolve, invoke, hen, go_sem]
    rw [← hx, ← hy, ← hz]
    cases x <;> cases y <;> cases z <;> simp [Act.eval]
  rw [hr, Oper.upon_enter]
  refine hc.mono ?_
  rintro e w' ⟨u, rfl, hk⟩
  exact hk
end Go.Proofs.YtlbjbkhcnafhcaaGreat
namespace Go.Proofs.YtlbjbkhcnafhcaaGreat.SN
open Go.RowKit Go.Sort Go.Maps

structure Hd where
  nm : ByteArray
  kv : Value
instance : Inhabited Hd := ⟨⟨⟨#[]⟩, .slice none 0 0⟩⟩
def Hd.cells (h : Hd) : List Value := [.string h.nm, h.kv]
theorem hd_len (h : Hd) : h.cells.length = 2 := rfl
def HeadsD (P : Nat → Prop) (w : World) (hs : List Hd) (l : List Sm) : Prop := hs.length = l.length ∧ ∀ (j : Nat) h s, hs[j]? = some h → l[j]? = some s → h.nm = s.nm ∧ RowIn (ty36 P w) w h.kv s.ks
theorem HeadsD.kp {P T : Nat → Prop} {w w' : World} {hs : List Hd} {l : List Sm} (h : HeadsD P w hs l) (hk : Kp T w w') (ht : ∀ k, ty36 P w k → ¬ T k) : HeadsD P w' hs l :=
  ⟨h.1, fun j x s h1 h2 => ⟨(h.2 j x s h1 h2).1, row_kp (h.2 j x s h1 h2).2 hk ht⟩⟩
theorem HeadsD.P {P P' : Nat → Prop} {w : World} {hs : List Hd} {l : List Sm} (h : HeadsD P w hs l) (hp : ∀ k, k < w.heap.size → P k → P' k) : HeadsD P' w hs l :=
  ⟨h.1, fun j x s h1 h2 => ⟨(h.2 j x s h1 h2).1, row_P (h.2 j x s h1 h2).2 hp⟩⟩
theorem HeadsD.snoc {P : Nat → Prop} {w : World} {hs : List Hd} {l : List Sm} {h : Hd} {s : Sm} (hh : HeadsD P w hs l) (hn : h.nm = s.nm) (hr : RowIn (ty36 P w) w h.kv s.ks) : HeadsD P w (hs ++ [h]) (l ++ [s]) := by
  refine ⟨by simp [hh.1], fun j x q h1 h2 => ?_⟩
  by_cases hlt : j < hs.length
  · rw [List.getElem?_append_left hlt] at h1
    rw [List.getElem?_append_left (by rw [← hh.1]; exact hlt)] at h2
    exact hh.2 j x q h1 h2
  · have hj : j = hs.length := by have := (List.getElem?_eq_some_iff.1 h1).1; simp at this; omega
    subst hj
    rw [List.getElem?_append_right (Nat.le_refl _)] at h1
    rw [hh.1, List.getElem?_append_right (Nat.le_refl _)] at h2
    simp at h1 h2
    subst h1 h2
    exact ⟨hn, hr⟩
/- What the map holds. -/
abbrev D1 := DataW Unit
def AgD (D : D1) (l : List Sm) : Prop := ∀ s, Gd s → Maps.has D (.string (txtL s)) = memS l s ∧ D.atKey (.string (txtL s)) (.lit (.int .i64 0)) = .lit (.int .i64 (findI l s))
theorem law9 : Keyed Tryz.prog 9 := string_keyed Tryz.underlying9
theorem zero3 (w : World) : (zeroValue 3).run Tryz.prog w = .ok (.int .i64 0) w := by kernel_rfl
theorem txt_data (s : Sm) : (txt s).data.toList = txtL s := rfl
theorem txtL_inj {s t : Sm} (hs : Gd s) (ht : Gd t) (h : txtL s = txtL t) : s = t := txt_inj hs ht (by unfold txt; rw [h])
theorem isKey (l : List UInt8) : WideAt.IsKeyLit (.string l) := trivial
theorem AgD.nil : AgD (.map []) [] := fun _ _ => ⟨rfl, rfl⟩
theorem AgD.put {D : D1} {l : List Sm} {s : Sm} (h : AgD D l) (hm : IsMap D) (hs : Gd s) (hn : s ∉ l) : AgD (D.put (.string (txtL s)) (.lit (.int .i64 (l.length : Int)))) (l ++ [s]) := by
  intro t ht
  by_cases e : t = s
  · subst e
    refine ⟨?_, ?_⟩
    · rw [has_put_same hm (isKey _)]
      simp [memS]
    · rw [atKey_put_same hm (isKey _)]
      unfold findI
      rw [if_pos (by simp), posS_new hn]
  · have hne : (Lit.string (txtL t)) ≠ .string (txtL s) := fun h => e (txtL_inj ht hs (by injection h))
    obtain ⟨h1, h2⟩ := h t ht
    refine ⟨?_, ?_⟩
    · rw [has_put_other hne, h1]
      simp [memS, e]
    · rw [atKey_put_other hne, h2]
      unfold findI
      by_cases hm : t ∈ l
      · rw [if_pos hm, if_pos (by simp [hm]), posS_app hm]
      · rw [if_neg hm, if_neg (by simp [hm, e])]
/- What else a leaf's block holds. -/
structure Fx where
  sc : Value
  rm : Value
  pt : Value
  sm : Value
structure Dn (B : Nat) (P : Nat → Prop) (w : World) (sv : Value) (m : Nat) (l : List Sm) : Prop where
  mB : B ≤ m
  row : ∃ hs, Own Hd.cells 2 97 B w sv hs ∧ HeadsD P w hs l
  map : ∃ D : D1, w.ownsMap Tryz.prog 9 (plainElem Tryz.prog 3) m l.length D ∧ AgD D l
  dc : Dc l
structure Dk (fx : Fx) (B : Nat) (P : Nat → Prop) (w : World) (b : Nat) (most : Int) (sv : Value) (m : Nat) (l : List Sm) : Prop where
  bB : B ≤ b
  mB : B ≤ m
  blk : w.heap[b]? = some (.cells #[fx.sc, fx.rm, fx.pt, .int .i64 most, sv, .map (some m), fx.sm] 72)
  row : ∃ hs, Own Hd.cells 2 97 B w sv hs ∧ HeadsD P w hs l
  map : ∃ D : D1, w.ownsMap Tryz.prog 9 (plainElem Tryz.prog 3) m l.length D ∧ AgD D l
  dc : Dc l
def Tc (b : Nat) (sv : Value) (m : Nat) (k : Nat) : Prop := k = b ∨ sv.ownBlock = some k ∨ k = m
theorem map_blk {w : World} {m n : Nat} {D : D1} (h : w.ownsMap Tryz.prog 9 (plainElem Tryz.prog 3) m n D) : ∃ es c, w.heap[m]? = some (.map es c) := let ⟨es, c, hb, _⟩ := h; ⟨es, c, hb⟩
theorem map_kp {T : Nat → Prop} {w w' : World} {m n : Nat} {D : D1} (h : w.ownsMap Tryz.prog 9 (plainElem Tryz.prog 3) m n D) (hk : Kp T w w') (ht : ¬ T m) : w'.ownsMap Tryz.prog 9 (plainElem Tryz.prog 3) m n D := by
  obtain ⟨es, c, hb, r⟩ := h
  exact ⟨es, c, hk.blk hb ht, r⟩
theorem Dk.dn {fx : Fx} {B : Nat} {P : Nat → Prop} {w : World} {b : Nat} {most : Int} {sv : Value} {m : Nat} {l : List Sm} (h : Dk fx B P w b most sv m l) : Dn B P w sv m l := ⟨h.mB, h.row, h.map, h.dc⟩
theorem Dn.kp {B : Nat} {P T : Nat → Prop} {w w' : World} {sv : Value} {m : Nat} {l : List Sm} (h : Dn B P w sv m l) (hk : Kp T w w') (hv : ∀ g, sv.ownBlock = some g → ¬ T g) (hm : ¬ T m) (ht : ∀ k, ty36 P w k → ¬ T k) : Dn B P w' sv m l := by
  obtain ⟨hs, ho, hh⟩ := h.row
  obtain ⟨D, hD, ha⟩ := h.map
  exact ⟨h.mB, ⟨hs, own_kp ho hk hv, hh.kp hk ht⟩, ⟨D, map_kp hD hk hm, ha⟩, h.dc⟩
theorem Dn.on {B : Nat} {P : Nat → Prop} {w w' : World} {sv : Value} {m : Nat} {l : List Sm} (h : Dn B P w sv m l) (hb : Below w.heap.size w w') : Dn B P w' sv m l :=
  h.kp (T := fun _ => False) (Kp.of hb) (fun _ _ => id) id (fun _ _ => id)
theorem Dn.le {B B' : Nat} {P : Nat → Prop} {w : World} {sv : Value} {m : Nat} {l : List Sm} (h : Dn B P w sv m l) (hb : B' ≤ B) : Dn B' P w sv m l :=
  let ⟨hs, ho, hh⟩ := h.row; ⟨Nat.le_trans hb h.mB, ⟨hs, own_le ho hb, hh⟩, h.map, h.dc⟩
theorem Dn.P {B : Nat} {P P' : Nat → Prop} {w : World} {sv : Value} {m : Nat} {l : List Sm} (h : Dn B P w sv m l) (hp : ∀ k, k < w.heap.size → P k → P' k) : Dn B P' w sv m l :=
  let ⟨hs, ho, hh⟩ := h.row; ⟨h.mB, ⟨hs, ho, hh.P hp⟩, h.map, h.dc⟩
theorem Dn.dk {fx : Fx} {B : Nat} {P : Nat → Prop} {w : World} {b : Nat} {most : Int} {sv : Value} {m : Nat} {l : List Sm} (h : Dn B P w sv m l) (hB : B ≤ b) (hb : w.heap[b]? = some (.cells #[fx.sc, fx.rm, fx.pt, .int .i64 most, sv, .map (some m), fx.sm] 72)) : Dk fx B P w b most sv m l := ⟨hB, h.mB, hb, h.row, h.map, h.dc⟩
theorem Dk.kp {fx : Fx} {B : Nat} {P T : Nat → Prop} {w w' : World} {b : Nat} {most : Int} {sv : Value} {m : Nat} {l : List Sm} (h : Dk fx B P w b most sv m l) (hk : Kp T w w') (hb : ¬ T b) (hv : ∀ g, sv.ownBlock = some g → ¬ T g) (hm : ¬ T m) (ht : ∀ k, ty36 P w k → ¬ T k) : Dk fx B P w' b most sv m l := by
  obtain ⟨hs, ho, hh⟩ := h.row
  obtain ⟨D, hD, ha⟩ := h.map
  exact ⟨h.bB, h.mB, hk.blk h.blk hb, ⟨hs, own_kp ho hk hv, hh.kp hk ht⟩, ⟨D, map_kp hD hk hm, ha⟩, h.dc⟩
theorem Dk.on {fx : Fx} {B : Nat} {P : Nat → Prop} {w w' : World} {b : Nat} {most : Int} {sv : Value} {m : Nat} {l : List Sm} (h : Dk fx B P w b most sv m l) (hb : Below w.heap.size w w') : Dk fx B P w' b most sv m l :=
  h.kp (T := fun _ => False) (Kp.of hb) id (fun _ _ => id) id (fun _ _ => id)
theorem Dk.P {fx : Fx} {B : Nat} {P P' : Nat → Prop} {w : World} {b : Nat} {most : Int} {sv : Value} {m : Nat} {l : List Sm} (h : Dk fx B P w b most sv m l) (hp : ∀ k, k < w.heap.size → P k → P' k) : Dk fx B P' w b most sv m l := by
  obtain ⟨hs, ho, hh⟩ := h.row
  exact ⟨h.bB, h.mB, h.blk, ⟨hs, ho, hh.P hp⟩, h.map, h.dc⟩
theorem Dk.T_ge {fx : Fx} {B : Nat} {P : Nat → Prop} {w : World} {b : Nat} {most : Int} {sv : Value} {m : Nat} {l : List Sm} (h : Dk fx B P w b most sv m l) : ∀ k, Tc b sv m k → B ≤ k := by
  obtain ⟨hs, ho, hh⟩ := h.row
  intro k hk
  rcases hk with rfl | hk | rfl
  · exact h.bB
  · exact (own_at ho hk).1
  · exact h.mB
theorem Dk.T_lt {fx : Fx} {B : Nat} {P : Nat → Prop} {w : World} {b : Nat} {most : Int} {sv : Value} {m : Nat} {l : List Sm} (h : Dk fx B P w b most sv m l) : ∀ k, Tc b sv m k → k < w.heap.size := by
  obtain ⟨hs, ho, hh⟩ := h.row
  obtain ⟨D, hD, ha⟩ := h.map
  intro k hk
  rcases hk with rfl | hk | rfl
  · exact lt_of_block h.blk
  · exact (own_at ho hk).2
  · exact hD.lt
theorem Dk.T_not {fx : Fx} {B : Nat} {P : Nat → Prop} {w : World} {b : Nat} {most : Int} {sv : Value} {m : Nat} {l : List Sm} (h : Dk fx B P w b most sv m l) {k : Nat} {cs : Array Value} {t : TypeId} {fz : Nat × Nat} (hk : w.heap[k]? = some (.cells cs t fz)) (h1 : t ≠ 72) (h2 : t ≠ 97) : ¬ Tc b sv m k := by
  obtain ⟨hs, ho, hh⟩ := h.row
  obtain ⟨D, hD, ha⟩ := h.map
  rintro (rfl | hg | rfl)
  · rw [h.blk] at hk; cases hk; exact h1 rfl
  · obtain ⟨c, f, hc⟩ := own_kind ho hg
    rw [hc] at hk; cases hk; exact h2 rfl
  · obtain ⟨es, c, hb⟩ := map_blk hD
    rw [hb] at hk; cases hk
theorem info83 : (Tryz.prog.info? 97).map (fun i => (i.zero, i.size, i.bytes)) = some (some (.agg #[.string ⟨#[]⟩, .slice none 0 0]), 2, 40) := by kernel_rfl
theorem elem83 : ElemN 64 97 2 40 := by
  obtain ⟨i, hi, h0, h1, h2⟩ := info_parts info83
  exact ⟨Tryz.underlying64, by omega, i, _, hi, h0, h1, Nat.le_of_eq h2, rfl⟩
end Go.Proofs.YtlbjbkhcnafhcaaGreat.SN
namespace Go.Proofs.YtlbjbkhcnafhcaaGreat.SN
open Go.RowKit Go.Sort Go.Maps

abbrev dp (b : Nat) : Value := .pointer (some ⟨b, 3, none⟩)
theorem alloc2_block (w : World) (x y : Obj) : ((w.alloc x).alloc y).heap[w.heap.size + 1]? = some y := by
  have := alloc_block (w.alloc x) y
  rwa [World.size_alloc] at this
set_option maxRecDepth 100000 in
set_option maxHeartbeats 1000000 in
theorem new_any {P : Nat → Prop} {most : Int} {w : World} :
    Calls Tryz.prog 22 #[.int .i64 most] w fun e w' => ∃ b m, e = .returned (.pointer (some ⟨b, 0, none⟩)) ∧ w'.heap[b]? = some (.cells #[.int .i64 most, .slice none 0 0, .map (some m)] 67) ∧ Dn w.heap.size P w' (.slice none 0 0) m [] ∧ Below w.heap.size w w' := by
  have hmm := @run_makeMap Tryz.prog
  go_enter Tryz.func22, Tryz.ntmps22
  go_wp2
  go_ret
  refine ⟨w.heap.size + 1, w.heap.size, rfl, alloc2_block _ _ _, ⟨Nat.le_refl _, ⟨[], Own.nil _ _ _ _ _, rfl, fun j h s h1 _ => by simp at h1⟩, ⟨.map [], (World.ownsMap_made _ _ _ _).alloc _, AgD.nil⟩, Dc.nil⟩, ((Below.refl _ _).alloc (Nat.le_refl _) _).alloc (by simp) _⟩
theorem key_txt {s : Sm} (h : (txt s).size ≤ maxLen) : keyOf Tryz.prog 9 (.string (txt s)) = some (.string (txtL s)) := WideMaps.keyOf_string_mk Tryz.underlying9 h
theorem txt_small {nm : ByteArray} {ks : Rw} (hl : List.length ks ≤ 2000000) (hn : nm.size ≤ 2000000) : (textV nm ks).size ≤ maxLen := by
  unfold textV
  split
  · rename_i h
    have h1 : (txt ⟨nm, ks⟩).size = (txtL ⟨nm, ks⟩).length := by show (txtL ⟨nm, ks⟩).toArray.size = _; simp
    rw [h1]
    have h2 := keysB_len h
    have h3 : nm.data.toList.length = nm.size := by rw [Array.length_toList]; rfl
    unfold txtL maxLen
    simp only [List.length_append, List.length_cons, h3]
    omega
  · decide
set_option maxRecDepth 100000 in
set_option maxHeartbeats 1000000 in
theorem find_any {fx : Fx} {B : Nat} {P : Nat → Prop} {w : World} {b : Nat} {most : Int} {sv : Value} {m : Nat} {l : List Sm} {v : Value} {s : Sm} (h : Dk fx B P w b most sv m l) (hv : RowAt w v s.ks) (hl : List.length s.ks ≤ 2000000) (hn : s.nm.size ≤ 2000000) (hr : ∀ x ∈ s.ks, Rng x) :
    Calls Tryz.prog 51 #[dp b, .string s.nm, v] w fun e w' => e = .returned (.tuple #[.int .i64 (findI l s), .bool (memS l s)]) ∧ Below w.heap.size w w' := by
  have HV := hid hv
  have HL := hid hl
  have HN := hid hn
  have HK := hid h
  have HT := hid (txt_small (nm := s.nm) hl hn)
  clear hv hl hn
  have hbl := lt_of_block h.blk
  cases hok : okK s.ks with
  | false =>
    have E1 := hid (memS_bad h.dc hok)
    have E2 := hid (findI_bad h.dc hok)
    have E3 : Hid (textE s.ks = 10) := by show _ = _; unfold textE; rw [hok]; rfl
    clear hok h hr
    go_enter Tryz.func51, Tryz.ntmps51
    go_wp2_with (first
      | (go_at_call 53; refine (text_any HV.out HL.out HN.out).mono ?_; rintro e w1 ⟨rfl, hb1⟩; rw [E3.out]))
    exact bodyPost_ret (v := .tuple #[.int .i64 (findI l s), .bool (memS l s)]) (by simp [results, Tryz.results51, go_sem, E1.out, E2.out]) rfl ⟨rfl, hb1⟩
  | true =>
    have hgd : Gd s := ⟨hok, hr⟩
    have E3 : Hid (textE s.ks = 0) := by show _ = _; unfold textE; rw [hok]; rfl
    have E4 : Hid (textV s.nm s.ks = txt s) := by show _ = _; unfold textV; rw [hok]; rfl
    have HKy := hid (key_txt (s := s) (by rw [← E4.out]; exact HT.out))
    obtain ⟨D, hD, hA⟩ := h.map
    obtain ⟨a1, a2⟩ := hA s hgd
    have HD := hid hD
    have A1 := hid a1
    have A2 := hid a2
    clear hok h hr hgd hD hA a1 a2
    go_enter Tryz.func51, Tryz.ntmps51
    go_wp2_with (first
      | (go_at_call 53; refine (text_any HV.out HL.out HN.out).mono ?_; rintro e w1 ⟨rfl, hb1⟩; rw [E3.out, E4.out]; have HB1 := hid hb1; have k1 := block_cell (HK.out.on hb1).blk; have HD1 := hid (map_kp (T := fun _ => False) HD.out (Kp.of hb1) id); clear hb1)
      | (at_lookup; refine wpList_lookup_own_ok_int _ rfl _ _ 65 rfl 9 3 .i64 law9 Tryz.underlying65 Tryz.underlying3 (zero3 _) m l.length _ rfl HD1.out _ _ rfl HKy.out ?_; intro c hat hwc; rw [A2.out] at hat; injection hat with hat; injection hat with _ hat; rw [A1.out]; subst hat))
    exact bodyPost_ret (v := .tuple #[.int .i64 (findI l s), .bool (memS l s)]) (by simp [results, Tryz.results51, go_sem]) rfl ⟨rfl, HB1.out⟩
end Go.Proofs.YtlbjbkhcnafhcaaGreat.SN
