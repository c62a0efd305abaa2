/-
  What Parse and Query return.
-/
import Derived.Test.YtomnjckbgmbgmaaGreatDoorQLex
import Derived.Test.YtomnjckbgmbgmaaGreatDoorQPRm
namespace Go.Proofs.YtomnjckbgmbgmaaGreatDoor
open Go.RowKit Go.Joins

section
variable {ts : List Tp} {w : World} {tv : Value}
theorem q_box {w w1 w2 : World} {v v0 : Value} {ns : List Np} (h1 : w1.heap[w.heap.size]? = some (.cells #[v0] 27 (0, 0))) (hb0 : Below w.heap.size w w1) (hn : Nq w1.heap.size w2 v ns) (hb : Below w1.heap.size w1 w2) :
    (w2.setCell ⟨w.heap.size, 0, none⟩ v).heap[w.heap.size]? = some (.cells #[v] 27 (0, 0)) ∧ Nq w.heap.size (w2.setCell ⟨w.heap.size, 0, none⟩ v) v ns ∧ Below w.heap.size w (w2.setCell ⟨w.heap.size, 0, none⟩ v) := by
  have k := block_on h1 hb
  have hl := lt_of_block h1
  refine ⟨?_, ?_, ?_⟩
  · have := block_set k 0 v; simpa using this
  · exact (hn.kp (Kp.set (T := fun k => k = w.heap.size) rfl _) (fun k e => by omega)).le hb0.size
  · exact (hb0.trans (hb.mono hb0.size)).setCell (by simp) _
theorem q_box2 {w w1 w2 W : World} {v v0 : Value} {ns : List Np} (h1 : w1.heap[w.heap.size]? = some (.cells #[v0] 27 (0, 0))) (hb0 : Below w.heap.size w w1) (hn : Nq w1.heap.size w2 v ns) (hb : Below w1.heap.size w1 w2) (hk : Kp (fun k => k = w.heap.size) w2 W) : Nq w.heap.size W v ns ∧ Below w.heap.size w W := by
  have hl := lt_of_block h1
  exact ⟨(hn.kp hk (fun k e => by omega)).le hb0.size, (hb0.trans (hb.mono hb0.size)).trans (hk.below (Nat.le_trans hb0.size hb.size) (fun k e => by omega))⟩
theorem q_set {W : World} {n : Nat} {v0 : Value} (h : W.heap[n]? = some (.cells #[v0] 27 (0, 0))) (v : Value) : (W.setCell ⟨n, 0, none⟩ v).heap[n]? = some (.cells #[v] 27 (0, 0)) := by
  have := block_set h 0 v; simpa using this
set_option maxRecDepth 100000 in
set_option maxHeartbeats 1000000 in
theorem Parse_any (htok : SlAt (fun b => b < w.heap.size) Tp.cells 4 w tv ts) : Calls Tryz.prog 11 #[tv] w (WhP w (parseS ts)) := by
  have HB0 : Hid (Below w.heap.size w (w.alloc (.cells #[.slice none 0 0] 27))) := (Below.refl _ _).alloc (Nat.le_refl _) _
  have HZ := hid (alloc_block w (.cells #[.slice none 0 0] 27))
  have HC := hid (whole_query ((htok.on HB0.out).imp (fun b hb => by simp; omega)))
  have HP : Hid (wholeS ts (queryS ts 16) = parseS ts) := rfl
  rw [HP.out] at HC
  generalize parseS ts = R at *
  generalize hW : w.alloc (.cells #[.slice none 0 0] 27) = w1 at *
  have HW := hid hW
  obtain ⟨p, cap, rfl, hc1, hc2⟩ := htok.form
  clear htok hW
  go_enter Tryz.func11, Tryz.ntmps11
  go_upto_region 1 with fail
  rw [HW.out]
  go_wp2_with (go_at_call 29; refine HC.out.mono ?_; rintro e w2 ⟨v, rfl, hn, hb⟩; have HX := hid (q_box HZ.out HB0.out hn hb); have kz := block_cell (block_on HZ.out hb); have fz := block_frozen (block_on HZ.out hb); obtain ⟨qs, ho, -⟩ := hn; obtain ⟨pv, cv, rfl⟩ := ho.form; clear hb ho)
  have k9 := block_cell HX.out.1
  refine bodyPost_ret (v := .tuple #[.agg #[.slice pv qs.length cv], .int .i64 (R.2.1 : Int), .int .i64 R.2.2]) (by simp [results, Tryz.results11, go_sem, k9]) rfl ?_
  exact ⟨_, rfl, HX.out.2.1, HX.out.2.2⟩
/- Lex's tokens as the reader has them. -/
def tp (t : Tk) : Tp := ⟨(t.kind : Int), t.s, t.n, (t.at_ : Int)⟩
theorem SlAt.map {α β : Type} {Q : Nat → Prop} {e1 : α → List Value} {e2 : β → List Value} {k : Nat} {w : World} {v : Value} {xs : List α} {f : α → β} (h : SlAt Q e1 k w v xs) (he : ∀ x, e2 (f x) = e1 x) : SlAt Q e2 k w v (xs.map f) := by
  obtain ⟨p, cap, hv, hc, hx⟩ := h
  refine ⟨p, cap, by simpa using hv, by simpa using hc, fun hne => ?_⟩
  obtain ⟨b, o, hp, hQ, hj⟩ := hx (by simpa using hne)
  refine ⟨b, o, hp, hQ, fun j y hy => ?_⟩
  rw [List.getElem?_map] at hy
  cases hx : xs[j]? with
  | none => rw [hx] at hy; cases hy
  | some x => rw [hx] at hy; cases hy; rw [he]; exact hj j x hx
theorem Tr.sl2 {B : Nat} {w : World} {v : Value} {tks : List Tk} (h : Tr B w v tks) : SlAt (fun b => B ≤ b ∧ b < w.heap.size) Tp.cells 4 w v (tks.map tp) :=
  (Own.sl (enc := tkC) (k := 4) (e := 33) h (fun _ => rfl)).map (fun _ => rfl)
theorem Tr.sl {B : Nat} {w : World} {v : Value} {tks : List Tk} (h : Tr B w v tks) : SlAt (fun b => b < w.heap.size) Tp.cells 4 w v (tks.map tp) :=
  ((Own.sl (enc := tkC) (k := 4) (e := 33) h (fun _ => rfl)).imp (fun _ hb => hb.2)).map (fun _ => rfl)
def placeS (tks : List Tk) (n len : Nat) : Nat := match tks[n]? with
  | some t => t.at_
  | none => len
/- What Query answers. -/
def queryO (l : List UInt8) : List Np × Nat × Int := match lexO l with
  | (tks, a, e) => if e = 0 then (if (parseS (tks.map tp)).2.2 = 0 then ((parseS (tks.map tp)).1, 0, 0) else ([], placeS tks (parseS (tks.map tp)).2.1 l.length, (parseS (tks.map tp)).2.2)) else ([], a, e)
set_option maxRecDepth 100000 in
set_option maxHeartbeats 1000000 in
theorem place_any {tks : List Tk} (n len : Nat) (htok : SlAt (fun b => b < w.heap.size) Tp.cells 4 w tv (tks.map tp)) : Calls Tryz.prog 36 #[tv, .int .i64 (n : Int), .int .i64 (len : Int)] w fun e w' => e = .returned (.int .i64 (placeS tks n len : Int)) ∧ w' = w := by
  obtain ⟨p, cap, rfl, hc1, hc2⟩ := htok.form
  unfold maxLen at hc2
  simp only [List.length_map] at hc1 htok ⊢
  by_cases hi : n < tks.length
  · obtain ⟨g, og, rfl, -, hc⟩ := htok.at (j := n) (x := tp tks[n]) (by simp [hi])
    have e3 : w.cell? ⟨g, og + n * 4 + 3, none⟩ = some (.int .i64 (tks[n].at_ : Int)) := hc 3 _ rfl
    have HP : Hid (placeS tks n len = tks[n].at_) := by show _ = _; unfold placeS; rw [List.getElem?_eq_getElem hi]
    have iI : (n : Int) < tks.length := by omega
    have n0 : (0 : Int) ≤ n := by omega
    clear hc htok
    generalize tks[n].at_ = A at *
    generalize tks.length = ln at *
    go_enter Tryz.func36, Tryz.ntmps36
    go_wp2_with fail
    go_ret
    exact ⟨by rw [HP.out]; rfl, rfl⟩
  · have HP : Hid (placeS tks n len = len) := by show _ = _; unfold placeS; rw [List.getElem?_eq_none (by omega)]
    have iI : ¬ (n : Int) < tks.length := by omega
    clear htok
    generalize tks.length = ln at *
    go_enter Tryz.func36, Tryz.ntmps36
    go_wp2_with fail
    go_ret
    exact ⟨by rw [HP.out]; rfl, rfl⟩
set_option maxRecDepth 100000 in
set_option maxHeartbeats 2000000 in
theorem Query_any (l : List UInt8) (hl : (l.length : Int) ≤ 140737488355328) (w : World) (hG : Gd w) : Calls Tryz.prog 16 #[.string (St l)] w (WhP w (queryO l)) := by
  have hsz := St_size l
  have HB0 : Hid (Below w.heap.size w (w.alloc (.cells #[.slice none 0 0] 27))) := (Below.refl _ _).alloc (Nat.le_refl _) _
  have HZ := hid (alloc_block w (.cells #[.slice none 0 0] 27))
  have HC := hid (lex_any l hl (w.alloc (.cells #[.slice none 0 0] 27)) (hG.next HB0.out))
  have HQO : Hid (queryO l = match lexO l with
    | (tks, a, e) => if e = 0 then (if (parseS (tks.map tp)).2.2 = 0 then ((parseS (tks.map tp)).1, 0, 0) else ([], placeS tks (parseS (tks.map tp)).2.1 l.length, (parseS (tks.map tp)).2.2)) else ([], a, e)) := rfl
  unfold LexP at HC
  generalize lexO l = O at *
  generalize queryO l = R at *
  obtain ⟨tks, a0, e0⟩ := O
  generalize hW : w.alloc (.cells #[.slice none 0 0] 27) = w1 at *
  have HW := hid hW
  clear hG hW
  simp only at HQO HC
  by_cases he0 : e0 = 0
  · subst he0
    have hP : Hid (∀ {w : World} {tv : Value}, SlAt (fun b => b < w.heap.size) Tp.cells 4 w tv (tks.map tp) → Calls Tryz.prog 11 #[tv] w (WhP w (parseS (tks.map tp)))) := fun h => Parse_any h
    rw [if_pos rfl] at HQO
    generalize parseS (tks.map tp) = P at *
    obtain ⟨ns, n1, e1⟩ := P
    simp only at HQO
    by_cases he1 : e1 = 0
    · subst he1
      rw [if_pos rfl] at HQO
      go_enter Tryz.func16, Tryz.ntmps16
      go_upto_region 1 with fail
      rw [HW.out]
      go_wp2_with (first
        | (go_at_call 35; refine HC.out.mono ?_; rintro e w2 ⟨v, rfl, ht, hb⟩; have HT := hid ht.sl2; have HB2 := hid (HB0.out.trans (hb.mono HB0.out.size)); have HZ2 := hid (block_on HZ.out hb); clear hb ht)
        | (go_at_call 11; refine (hP.out (HT.out.imp (fun _ hb => hb.2))).mono ?_; rintro e w3 ⟨v3, rfl, hn, hb⟩; have HNQ := hid hn; have HBB := hid hb; have HZ3 := hid (block_on HZ2.out hb); have kz := block_cell HZ3.out; have fz := block_frozen HZ3.out; obtain ⟨qs, ho, -⟩ := hn; obtain ⟨pv, cv, rfl⟩ := ho.form; clear hb ho))
      have k9 := block_cell (q_set (q_set HZ3.out (.slice pv qs.length cv)) (.slice pv qs.length cv))
      obtain ⟨x1, x2⟩ := q_box2 HZ2.out HB2.out HNQ.out HBB.out ((Kp.set (T := fun k => k = w.heap.size) (i := 0) rfl (.slice pv qs.length cv)).trans (Kp.set (T := fun k => k = w.heap.size) (i := 0) rfl (.slice pv qs.length cv)))
      refine bodyPost_ret (v := .tuple #[.agg #[.slice pv qs.length cv], .int .i64 0, .int .i64 0]) (by simp [results, Tryz.results16, go_sem, k9]) rfl ?_
      rw [HQO.out]
      exact ⟨_, rfl, x1, x2⟩
    · rw [if_neg he1] at HQO
      have b1 : (e1 != 0) = true := by simp [he1]
      go_enter Tryz.func16, Tryz.ntmps16
      go_upto_region 1 with fail
      rw [HW.out]
      go_wp2_with (first
        | (go_at_call 35; refine HC.out.mono ?_; rintro e w2 ⟨v, rfl, ht, hb⟩; have HT := hid ht.sl2; have HB2 := hid (HB0.out.trans (hb.mono HB0.out.size)); have HZ2 := hid (block_on HZ.out hb); clear hb ht)
        | (go_at_call 11; refine (hP.out (HT.out.imp (fun _ hb => hb.2))).mono ?_; rintro e w3 ⟨v3, rfl, hn, hb⟩; have HNQ := hid hn; have HBB := hid hb; have HZ3 := hid (block_on HZ2.out hb); have kz := block_cell HZ3.out; have fz := block_frozen HZ3.out; obtain ⟨qs, ho, -⟩ := hn; obtain ⟨pv, cv, rfl⟩ := ho.form; clear hb ho)
        | (go_at_call 36; refine (place_any n1 l.length (((HT.out.on HBB.out).kp (Kp.set (T := fun k => k = w.heap.size) (i := 0) rfl (.slice pv qs.length cv)) (fun b hb e => by have := lt_of_block HZ.out; omega)).imp (fun b hb => by have := HBB.out.size; simp; omega))).mono ?_; rintro e w4 ⟨rfl, he⟩; replace he := he.symm; subst he))
      have k9 := block_cell (q_set (q_set HZ3.out (.slice pv qs.length cv)) (.slice none 0 0))
      obtain ⟨x1, x2⟩ := q_box2 HZ2.out HB2.out HNQ.out HBB.out ((Kp.set (T := fun k => k = w.heap.size) (i := 0) rfl (.slice pv qs.length cv)).trans (Kp.set (T := fun k => k = w.heap.size) (i := 0) rfl (.slice none 0 0)))
      refine bodyPost_ret (v := .tuple #[.agg #[.slice none 0 0], .int .i64 (placeS tks n1 l.length : Int), .int .i64 e1]) (by simp [results, Tryz.results16, go_sem, k9]) rfl ?_
      rw [HQO.out]
      exact ⟨_, rfl, Nq.nil _ _, x2⟩
  · rw [if_neg he0] at HQO
    have b0 : (e0 != 0) = true := by simp [he0]
    go_enter Tryz.func16, Tryz.ntmps16
    go_upto_region 1 with fail
    rw [HW.out]
    go_wp2_with (go_at_call 35; refine HC.out.mono ?_; rintro e w2 ⟨v, rfl, ht, hb⟩; have HB2 := hid (HB0.out.trans (hb.mono HB0.out.size)); have HZ2 := hid (block_on HZ.out hb); have kz := block_cell HZ2.out; have fz := block_frozen HZ2.out; clear hb ht)
    have k9 := block_cell (q_set HZ2.out (.slice none 0 0))
    refine bodyPost_ret (v := .tuple #[.agg #[.slice none 0 0], .int .i64 (a0 : Int), .int .i64 e0]) (by simp [results, Tryz.results16, go_sem, k9]) rfl ?_
    rw [HQO.out]
    exact ⟨_, rfl, Nq.nil _ _, HB2.out.setCell (by simp) _⟩
end
end Go.Proofs.YtomnjckbgmbgmaaGreatDoor
