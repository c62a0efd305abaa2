/-
  What table.compareRows returns, for every two rows.
  Slices that a call makes for itself: what append and Go's slices.Clone leave.
  What Go's slices.Clone returns, for columns and for rows.
  What Go's slices.SortFunc leaves of rows: canonical order.
  What table.inOrder returns, whatever function makes the rows anew.
-/
import Derived.Test.YtjfholofgohcjaaPB
import Derived.Test.YtjfholofgohcjaaQShelf
import Derived.Test.YtjfholofgohcjaaPC
import Derived.Test.YtjfholofgohcjaaQShelfSort
import Derived.Laws.AppendOwnNone
import Derived.OwnWalk
import Derived.Lib.SmallJoins
import Derived.Laws.MakeOwn
import Derived.Deep.RegionHeld
import Derived.Deep.Heap
namespace Go.Proofs.Ytjfholofgohcjaa
open Go.RowKit Go.Sort Go.Shelf

theorem cmpR_step {r q : Rw} {k : Nat} (h1 : k < r.length) (h2 : k < q.length) : cmpR (r.drop k) (q.drop k) = thn (cmpL r[k]! q[k]!) (cmpR (r.drop (k + 1)) (q.drop (k + 1))) := by
  have e1 : r[k]! = r[k] := by rw [List.getElem!_eq_getElem?_getD, List.getElem?_eq_getElem h1]; rfl
  have e2 : q[k]! = q[k] := by rw [List.getElem!_eq_getElem?_getD, List.getElem?_eq_getElem h2]; rfl
  rw [List.drop_eq_getElem_cons h1, List.drop_eq_getElem_cons h2, e1, e2]; rfl
theorem cmpR_longer {r q : Rw} {k : Nat} (h1 : k < r.length) (h2 : q.length ≤ k) : cmpR (r.drop k) (q.drop k) = 1 := by
  rw [List.drop_eq_getElem_cons h1, List.drop_eq_nil_of_le h2]; rfl
theorem cmpR_shorter {r q : Rw} {k : Nat} (h1 : r.length ≤ k) (h2 : k < q.length) : cmpR (r.drop k) (q.drop k) = -1 := by
  rw [List.drop_eq_getElem_cons h2, List.drop_eq_nil_of_le h1]; rfl
theorem cmpR_ends {r q : Rw} {k : Nat} (h1 : r.length ≤ k) (h2 : q.length ≤ k) : cmpR (r.drop k) (q.drop k) = 0 := by
  rw [List.drop_eq_nil_of_le h2, List.drop_eq_nil_of_le h1]; rfl
theorem compare_is {x y : Vl} {c : Int} {w : World} (h : cmpL x y = c) : Calls Try.prog 129 #[x.val, y.val] w fun e w' => e = .returned (.int .i64 c) ∧ Grew w w' := by rw [← h]; exact compare_any
set_option maxHeartbeats 1000000 in
theorem compFunc_any {u v : Value} {r q : Rw} {w : World} (hu : RowAt w u r) (hv : RowAt w v q) :
    Calls Try.prog 128 #[u, v, .func (.func 129) #[] #[]] w fun e w' => e = .returned (.int .i64 (cmpR r q)) ∧ Grew w w' := by
  obtain ⟨p, cap, rfl, hcap, hmax, hx⟩ := hu
  obtain ⟨p', cap', rfl, hcap', hmax', hx'⟩ := hv
  unfold maxLen at hmax hmax'
  have eg : ∀ args w, (callFunc 129 args).run Try.prog w = .ok (.enter 129 args) w := enters_of Try.func129 (by kernel_rfl) rfl
  generalize hr : cmpR r q = res
  have HR := hid hr
  have HX := hid hx
  have HX' := hid hx'
  clear hr hx hx'
  generalize hn : r.length = n at *
  generalize hn' : q.length = m at *
  have HN := hid hn
  have HN' := hid hn'
  clear hn hn'
  go_enter Try.func128, Try.ntmps128
  go_wp2
  go_loopw [13] (fun i wr => ∃ k : Nat, k ≤ n ∧ k ≤ m ∧ i = .int .i64 k ∧ Hid (Grew w wr) ∧ Hid (cmpR (r.drop k) (q.drop k) = res)) (fun i _ => n - (intOf i).toNat)
  case atStart => exact ⟨0, by omega, by omega, rfl, Grew.refl _, HR.out⟩
  case round =>
    obtain ⟨k, hk, hk', rfl, HG, HD⟩ := hrel
    by_cases hlt : k < n
    · have hkr : k < r.length := by rw [HN.out]; exact hlt
      obtain ⟨b, o, rfl, -, hj⟩ := HX.out (by intro e; subst e; simp at hkr)
      obtain ⟨c0, c1, c2, c3, c4, c5, c6, c7, c8, c9, c10⟩ := val_cells ((hj k _ (get!_some hkr)).on HG.out.below)
      have hb0 := block_lt_of_cell c0
      generalize hvv : r[k]! = x at c0 c1 c2 c3 c4 c5 c6 c7 c8 c9 c10
      have HVV := hid hvv
      clear hvv hj
      by_cases hlt' : k < m
      · have hkq : k < q.length := by rw [HN'.out]; exact hlt'
        obtain ⟨b', o', rfl, -, hj'⟩ := HX'.out (by intro e; subst e; simp at hkq)
        obtain ⟨d0, d1, d2, d3, d4, d5, d6, d7, d8, d9, d10⟩ := val_cells ((hj' k _ (get!_some hkq)).on HG.out.below)
        have hb0' := block_lt_of_cell d0
        generalize hvv : q[k]! = y at d0 d1 d2 d3 d4 d5 d6 d7 d8 d9 d10
        have HVV' := hid hvv
        clear hvv hj'
        have hnge : ¬ (m : Int) ≤ (k : Int) := by omega
        have HS := hid (cmpR_step hkr hkq)
        rw [HVV.out, HVV'.out] at HS
        by_cases hz : cmpL x y = 0
        · go_wp2_with (first | (go_at_fn 129; refine (compare_is hz).mono ?_; rintro e w2 ⟨rfl, hg2⟩))
          go_roundw
          case rel =>
            refine ⟨k + 1, by omega, by omega, by go_num, ((HG.out.alloc _).alloc _).trans hg2, ?_⟩
            have := HS.out
            rw [HD.out, thn_zero (by simp [hz])] at this
            exact this.symm
          case measure => simp [intOf]; omega
        · generalize hcv : cmpL x y = cv at *
          have hcz : (cv != 0) = true := by simpa using hz
          have HZ := hid hz
          have HCV := hid hcv
          clear hz hcv
          go_wp2_with (first | (go_at_fn 129; refine (compare_is HCV.out).mono ?_; rintro e w2 ⟨rfl, hg2⟩))
          go_ret
          refine ⟨ret_int ?_, ((HG.out.alloc _).alloc _).trans hg2⟩
          have := HS.out
          rw [HD.out, thn_ne hcz] at this
          exact this.symm
      · have hge : (m : Int) ≤ (k : Int) := by omega
        go_wp2
        go_ret
        exact ⟨ret_int ((cmpR_longer hkr (by rw [HN'.out]; omega)).symm.trans HD.out), HG.out.alloc _⟩
    · have hks : k = n := by omega
      subst hks
      by_cases hlt' : k < m
      · go_wp2
        go_ret
        exact ⟨ret_int ((cmpR_shorter (by rw [HN.out]; omega) (by rw [HN'.out]; omega)).symm.trans HD.out), HG.out⟩
      · have hkm : k = m := by omega
        subst hkm
        go_wp2
        go_ret
        exact ⟨ret_int ((cmpR_ends (by rw [HN.out]; omega) (by rw [HN'.out]; omega)).symm.trans HD.out), HG.out⟩
theorem compareRows_any {u v : Value} {r q : Rw} {w : World} (hu : RowAt w u r) (hv : RowAt w v q) :
    Calls Try.prog 100 #[u, v] w fun e w' => e = .returned (.int .i64 (cmpR r q)) ∧ Grew w w' := by
  have HC := hid (compFunc_any hu hv)
  clear hu hv
  generalize cmpR r q = res at *
  go_enter Try.func100, Try.ntmps100
  go_wp2_with (go_at_call 128; refine HC.out.mono ?_; rintro e w2 ⟨rfl, hg2⟩)
  go_ret
  exact ⟨rfl, hg2⟩
end Go.Proofs.Ytjfholofgohcjaa
namespace Go.Proofs.Ytjfholofgohcjaa
open Go.RowKit Go.Sort Go.Shelf

section
variable {α : Type} {enc : α → List Value} {k : Nat}
theorem flat_get (hk : ∀ x, (enc x).length = k) : ∀ (xs : List α) (j : Nat) x, xs[j]? = some x → ∀ (i : Nat) u, (enc x)[i]? = some u → (xs.flatMap enc)[j * k + i]? = some u
  | [], _, _, h, _, _, _ => by simp at h
  | y :: ys, 0, x, h, i, u, hi => by
    simp at h; subst h
    rw [List.flatMap_cons, Nat.zero_mul, Nat.zero_add, List.getElem?_append_left (by exact (List.getElem?_eq_some_iff.1 hi).1)]
    exact hi
  | y :: ys, j + 1, x, h, i, u, hi => by
    have ih := flat_get hk ys j x (by simpa using h) i u hi
    have e : (j + 1) * k + i = k + (j * k + i) := by rw [Nat.succ_mul]; omega
    rw [List.flatMap_cons, List.getElem?_append_right (by rw [hk]; omega), hk, e, Nat.add_sub_cancel_left]
    exact ih
theorem flat_cells (hk : ∀ x, (enc x).length = k) {w : World} {b : Nat} : ∀ (xs : List α) (o : Nat), (∀ (j : Nat) x, xs[j]? = some x → CellsAt w b (o + j * k) (enc x)) → CellsAt w b o (xs.flatMap enc)
  | [], _, _ => fun j u h => by simp at h
  | y :: ys, o, h => fun j u hj => by
    rw [List.flatMap_cons] at hj
    by_cases hlt : j < k
    · rw [List.getElem?_append_left (by rw [hk]; exact hlt)] at hj
      have := h 0 y rfl j u hj
      rwa [Nat.zero_mul, Nat.add_zero] at this
    · rw [List.getElem?_append_right (by rw [hk]; omega), hk] at hj
      have ih := flat_cells hk ys (o + k) (fun i x hx => by
        have := h (i + 1) x (by simpa using hx)
        have e : o + (i + 1) * k = o + k + i * k := by rw [Nat.succ_mul]; omega
        rwa [e] at this) (j - k) u hj
      have e : o + k + (j - k) = o + j := by omega
      rwa [e] at ih
theorem flat_length (hk : ∀ x, (enc x).length = k) (xs : List α) : (xs.flatMap enc).length = xs.length * k := by
  induction xs with
  | nil => simp
  | cons y ys ih => rw [List.flatMap_cons, List.length_append, hk, ih, List.length_cons, Nat.succ_mul]; omega
end
theorem vl_len (x : Vl) : x.cells.length = 11 := rfl
theorem cl_len (x : Cl) : x.cells.length = 2 := rfl
theorem one_len (x : Value) : (one x).length = 1 := rfl
/- What the program's table of types says of an element's type. -/
def Elem (t e k : Nat) : Prop := Try.prog.underlying t = some (.slice e) ∧ 0 < k ∧ ∃ i z, Try.prog.info? e = some i ∧ i.zero = some z ∧ i.size = k ∧ i.bytes ≤ bsz k ∧ z.cells.size = k
theorem info48 : (Try.prog.info? 44).map (fun i => (i.zero, i.size, i.bytes)) = some (some (V 0 0 ⟨#[]⟩ 0 0 0 0 0 0 0 0), 11, 96) := by kernel_rfl
theorem info45 : (Try.prog.info? 32).map (fun i => (i.zero, i.size, i.bytes)) = some (some (.agg #[.string ⟨#[]⟩, .int .i64 0]), 2, 24) := by kernel_rfl
theorem info35 : (Try.prog.info? 65).map (fun i => (i.zero, i.size, i.bytes)) = some (some (.slice none 0 0), 1, 24) := by kernel_rfl
theorem elem48 : Elem 65 44 11 := by
  obtain ⟨i, hi, h0, h1, h2⟩ := info_parts info48
  exact ⟨Try.underlying65, by omega, i, _, hi, h0, h1, Nat.le_of_eq h2, rfl⟩
theorem elem45 : Elem 22 32 2 := by
  obtain ⟨i, hi, h0, h1, h2⟩ := info_parts info45
  exact ⟨Try.underlying22, by omega, i, _, hi, h0, h1, Nat.le_of_eq h2, rfl⟩
theorem elem35 : Elem 23 65 1 := by
  obtain ⟨i, hi, h0, h1, h2⟩ := info_parts info35
  exact ⟨Try.underlying23, by omega, i, _, hi, h0, h1, Nat.le_of_eq h2, rfl⟩
theorem info3 : (Try.prog.info? 3).map (fun i => (i.zero, i.size, i.bytes)) = some (some (.int .i64 0), 1, 8) := by kernel_rfl
theorem info9 : (Try.prog.info? 9).map (fun i => (i.zero, i.size, i.bytes)) = some (some (.string ⟨#[]⟩), 1, 16) := by kernel_rfl
theorem elem3 : Elem 38 3 1 := by
  obtain ⟨i, hi, h0, h1, h2⟩ := info_parts info3
  exact ⟨Try.underlying38, by omega, i, _, hi, h0, h1, by rw [h2]; decide, rfl⟩
theorem elem9 : Elem 30 9 1 := by
  obtain ⟨i, hi, h0, h1, h2⟩ := info_parts info9
  exact ⟨Try.underlying30, by omega, i, _, hi, h0, h1, by rw [h2]; decide, rfl⟩
/- A slice of the call's own, of these elements. -/
def Own {α : Type} (enc : α → List Value) (k e : Nat) (B : Nat) (w : World) (v : Value) (xs : List α) : Prop := w.ownsRow B e k v xs.length (xs.flatMap enc)
theorem Own.sl {α : Type} {enc : α → List Value} {k e B : Nat} {w : World} {v : Value} {xs : List α} (h : Own enc k e B w v xs) (hk : ∀ x, (enc x).length = k) (hb : xs.length * bsz k ≤ 140737488355328) : SlAt (fun b => B ≤ b) enc k w v xs := by
  have hm : xs.length ≤ maxLen := by
    unfold maxLen; unfold bsz at hb; split at hb <;> omega
  rcases h.2 with ⟨hv, h0⟩ | ⟨g, cap, cur, hv, hg, hblk, hc, _⟩
  · have hn : xs = [] := List.eq_nil_of_length_eq_zero h0
    subst hn
    exact ⟨none, 0, hv, ⟨by simp, fun _ => rfl⟩, hm, fun hne => absurd rfl hne⟩
  · refine ⟨some ⟨g, 0, none⟩, cap, hv, ⟨hc, fun e => by cases e⟩, hm, fun _ => ⟨g, 0, rfl, ⟨hg, hb⟩, fun j x hx i u hi => ?_⟩⟩
    have := World.ownsRow.cells h (g := g) (by rw [hv]; rfl) (j * k + i) u (flat_get hk xs j x hx i u hi)
    rw [Addr.add_lit, Nat.zero_add] at this
    rw [Nat.zero_add]
    exact this
theorem Own.nil {α : Type} (enc : α → List Value) (k e B : Nat) (w : World) : Own enc k e B w (.slice none 0 0) ([] : List α) := World.ownsRow_nil w B e k
theorem Own.made {α : Type} (enc : α → List Value) (k e B : Nat) (w : World) (hb : B ≤ w.heap.size) : Own enc k e B (w.alloc (.cells #[] e)) (.slice (some ⟨w.heap.size, 0, none⟩) 0 0) ([] : List α) :=
  World.ownsRow_made w #[] 0 hb (Nat.zero_le _) (by simp)
theorem Own.lt {α : Type} {enc : α → List Value} {k e B : Nat} {w : World} {v : Value} {xs : List α} (h : Own enc k e B w v xs) : ∀ g, v.ownBlock = some g → B ≤ g := fun g hg => (World.ownsRow.lt h g hg).1
/- append(s, x...): s of the call's own, x any slice. -/
theorem app_any {ops : Array Oper} {rest : List Oper} {o : Oper} {a : Act} {Q : Exit → Act → World → Prop} {w : World} {α : Type} {enc : α → List Value} {k e t B : Nat} {Qb : Nat → Prop} {xs ys : List α} {v u : Value}
    (hE : Elem t e k) (hk : ∀ x, (enc x).length = k) (h1 : ∀ y ∈ ys, ∀ c ∈ enc y, c.oneCell' = true) (hgd : o.guard = none) (s x : Operand) (ho : o.op = .call { callee := .builtin .append, args := #[s, x], argTypes := #[t, t] })
    (hs : a.eval s = v) (hown : Own enc k e B w v xs) (hx : a.eval x = u) (hu : SlAt Qb enc k w u ys) (hb : (xs.length + ys.length) * bsz k ≤ 140737488355328) (hB : B ≤ w.heap.size)
    (h : ∀ v' w', Own enc k e B w' v' (xs ++ ys) → Below B w w' → wpList Try.prog ops Q rest (a.put o.dst v') w') : wpList Try.prog ops Q (o :: rest) a w := by
  obtain ⟨ht, hkp, i0, z, hi, hz0, hz1, hz2, hzs⟩ := hE
  obtain ⟨p, cap, rfl, ⟨hcap, hnone⟩, hmax, hy⟩ := hu
  cases p with
  | none =>
    have hn : ys = [] := by
      cases ys with
      | nil => rfl
      | cons y r => obtain ⟨b, o, hp, _⟩ := hy (by simp); cases hp
    subst hn
    have hc := hnone rfl
    subst hc
    refine wpList_append_own_none hgd s x t ho B e i0 k ht hi v xs.length _ hs hown (by rw [hx]; rfl) ?_
    have := h v w (by rw [List.append_nil]; exact hown) (Below.refl _ _)
    exact this
  | some ad =>
    refine wpList_append_own w hgd s x t ho B e i0 z k i0.bytes ht hi hz0 hz1 rfl hzs hkp v xs.length _ hs hown ad ys.length cap (ys.flatMap enc) hx (flat_length hk ys) ?_ ?_ ?_ (Nat.le_trans (Nat.mul_le_mul_left _ hz2) hb) hB ?_
    · intro j c hj
      have hne : ys ≠ [] := by intro e; subst e; simp at hj
      obtain ⟨b, o, hp, _, hcell⟩ := hy hne
      have hp' : ad = ⟨b, o, none⟩ := Option.some.inj hp
      rw [hp', Addr.add_lit]
      exact flat_cells hk ys o hcell j c hj
    · intro c hc
      obtain ⟨y, hy', hcy⟩ := List.mem_flatMap.1 hc
      exact h1 y hy' c hcy
    · unfold maxLen; unfold bsz at hb; split at hb <;> omega
    · intro v' w' h2 h3 _
      refine h v' w' ?_ ((Below.refl B w).grown h3 hB (fun j e => (hown.lt j e)))
      show w'.ownsRow B e k v' (xs ++ ys).length ((xs ++ ys).flatMap enc)
      rw [List.length_append, List.flatMap_append]; exact h2
theorem vl_cells (x : Vl) : ∀ c ∈ x.cells, c.oneCell' = true := by
  intro c hc; simp [Vl.cells] at hc; rcases hc with rfl | rfl | rfl | rfl | rfl | rfl | rfl | rfl | rfl | rfl | rfl <;> rfl
theorem cl_cells (x : Cl) : ∀ c ∈ x.cells, c.oneCell' = true := by
  intro c hc; simp [Cl.cells] at hc; rcases hc with rfl | rfl <;> rfl
end Go.Proofs.Ytjfholofgohcjaa
namespace Go.Proofs.Ytjfholofgohcjaa
open Go.RowKit Go.Sort Go.Shelf

theorem SlAt.bound {α : Type} {Q : Nat → Prop} {enc : α → List Value} {k : Nat} {w : World} {v : Value} {xs : List α} (h : SlAt Q enc k w v xs) : xs.length * bsz k ≤ 140737488355328 := by
  obtain ⟨p, cap, _, _, _, hx⟩ := h
  by_cases hn : xs = []
  · subst hn; simp
  · obtain ⟨_, _, _, hb, _⟩ := hx hn; exact hb.2
theorem SlAt.nil {α : Type} (Q : Nat → Prop) (enc : α → List Value) (k : Nat) (w : World) : SlAt Q enc k w (.slice none 0 0) ([] : List α) :=
  ⟨none, 0, rfl, ⟨Nat.le_refl _, fun _ => rfl⟩, Nat.zero_le _, fun h => absurd rfl h⟩
theorem SlAt.empty {α : Type} {Q : Nat → Prop} {enc : α → List Value} {k : Nat} {w : World} {cap : Nat} {xs : List α} {n : Nat} (h : SlAt Q enc k w (.slice none n cap) xs) : xs = [] := by
  obtain ⟨p, cap', hv, _, _, hx⟩ := h
  by_cases hn : xs = []
  · exact hn
  · obtain ⟨b, o, hp, _⟩ := hx hn
    subst hp; cases hv
set_option maxHeartbeats 400000 in
theorem cloneV_any {u : Value} {r : Rw} {w : World} (hu : RowAt w u r) :
    Calls Try.prog 88 #[u] w fun e w' => ∃ v', e = .returned v' ∧ RowIn (fun b => w.heap.size ≤ b) w' v' r ∧ Below w.heap.size w w' := by
  have HU := hid hu
  obtain ⟨p, cap, rfl, hcap, hmax, hx⟩ := hu
  clear hcap hmax hx
  generalize List.length r = n at *
  have q22 : ∀ (w : World) (a : Option Addr) (n c n' c' : Nat), (binOp .eql 65 (.slice a n c) (.slice none n' c')).run Try.prog w = .ok (.bool a.isNone) w := fun w a n c n' c' => Lib.run_eql_slice_nil w _ _ a n c n' c' Try.underlying65
  cases p with
  | none =>
    have hn := SlAt.empty HU.out
    subst hn
    go_enter Try.func88, Try.ntmps88
    go_wp2
    go_ret
    exact ⟨_, rfl, SlAt.nil _ _ _ _, Below.refl _ _⟩
  | some ad =>
    go_enter Try.func88, Try.ntmps88
    go_wp2_with (at_builtin; refine app_any elem48 vl_len (fun x _ => vl_cells x) rfl _ _ rfl rfl (Own.made Vl.cells 11 44 w.heap.size w (Nat.le_refl _)) rfl (SlAt.on HU.out ((Below.refl _ _).alloc (Nat.le_refl _) _)) (by simpa using SlAt.bound HU.out) (by simp) ?_; intro v' w1 hown hb1)
    go_ret
    exact ⟨_, rfl, Own.sl (by rw [List.nil_append] at hown; exact hown) vl_len (SlAt.bound HU.out), ((Below.refl _ _).alloc (Nat.le_refl _) _).trans hb1⟩
set_option maxHeartbeats 400000 in
theorem cloneC_any {u : Value} {r : List Cl} {w : World} (hu : ColsAt w u r) :
    Calls Try.prog 79 #[u] w fun e w' => ∃ v', e = .returned v' ∧ SlAt (fun b => w.heap.size ≤ b) Cl.cells 2 w' v' r ∧ Below w.heap.size w w' := by
  have HU := hid hu
  obtain ⟨p, cap, rfl, hcap, hmax, hx⟩ := hu
  clear hcap hmax hx
  generalize List.length r = n at *
  have q22 : ∀ (w : World) (a : Option Addr) (n c n' c' : Nat), (binOp .eql 22 (.slice a n c) (.slice none n' c')).run Try.prog w = .ok (.bool a.isNone) w := fun w a n c n' c' => Lib.run_eql_slice_nil w _ _ a n c n' c' Try.underlying22
  cases p with
  | none =>
    have hn := SlAt.empty HU.out
    subst hn
    go_enter Try.func79, Try.ntmps79
    go_wp2
    go_ret
    exact ⟨_, rfl, SlAt.nil _ _ _ _, Below.refl _ _⟩
  | some ad =>
    go_enter Try.func79, Try.ntmps79
    go_wp2_with (at_builtin; refine app_any elem45 cl_len (fun x _ => cl_cells x) rfl _ _ rfl rfl (Own.made Cl.cells 2 32 w.heap.size w (Nat.le_refl _)) rfl (SlAt.on HU.out ((Below.refl _ _).alloc (Nat.le_refl _) _)) (by simpa using SlAt.bound HU.out) (by simp) ?_; intro v' w1 hown hb1)
    go_ret
    exact ⟨_, rfl, Own.sl (by rw [List.nil_append] at hown; exact hown) cl_len (SlAt.bound HU.out), ((Below.refl _ _).alloc (Nat.le_refl _) _).trans hb1⟩
end Go.Proofs.Ytjfholofgohcjaa
namespace Go.Proofs.Ytjfholofgohcjaa
open Go.RowKit Go.Sort Go.Shelf

theorem slice_one {Q : Nat → Prop} {w : World} {h : Value} {r : Rw} (hr : RowIn Q w h r) : h.oneCell' = true := by
  obtain ⟨p, cap, rfl, _⟩ := hr; rfl
def encH (hs : List Value) (i : Nat) : Value := hs.getD i (.slice none 0 0)
def datR (ds : List Rw) (i : Nat) : Rw := ds.getD i []
def cfR (ds : List Rw) (i j : Nat) : Int := cmpR (datR ds i) (datR ds j)
theorem heads_get {Q : Nat → Prop} {w : World} {hs : List Value} {ds : List Rw} (h : HeadsIn Q w hs ds) (i : Nat) : RowIn Q w (encH hs i) (datR ds i) := by
  unfold encH datR
  by_cases hi : i < hs.length
  · have hi' : i < ds.length := by rw [← h.1]; exact hi
    rw [List.getD_eq_getElem?_getD, List.getD_eq_getElem?_getD, List.getElem?_eq_getElem hi, List.getElem?_eq_getElem hi']
    exact h.2 i _ _ (List.getElem?_eq_getElem hi) (List.getElem?_eq_getElem hi')
  · have hi' : ¬ i < ds.length := by rw [← h.1]; exact hi
    rw [List.getD_eq_getElem?_getD, List.getD_eq_getElem?_getD, List.getElem?_eq_none (by omega), List.getElem?_eq_none (by omega)]
    exact SlAt.nil _ _ _ _
theorem lt_true {ds : List Rw} {x y : Nat} : ltOf (cfR ds) x y = true ↔ cmpR (datR ds x) (datR ds y) < 0 := ⟨fun h => of_decide_eq_true h, fun h => decide_eq_true h⟩
theorem lt_false {ds : List Rw} {x y : Nat} : ltOf (cfR ds) x y = false ↔ ¬ cmpR (datR ds x) (datR ds y) < 0 := ⟨fun h => of_decide_eq_false h, fun h => decide_eq_false h⟩
theorem swoR (ds : List Rw) : SWO (ltOf (cfR ds)) where
  irrefl x := by rw [lt_false, (cmpR_zero _ _).2 rfl]; omega
  trans x y z h1 h2 := by
    rw [lt_true] at *
    obtain ⟨a, b, c, d, e, f, g⟩ := tri_cmpR (datR ds x) (datR ds y) (datR ds z)
    omega
  ntrans x y z h1 h2 := by
    rw [lt_false] at *
    obtain ⟨a, b, c, d, e, f, g⟩ := tri_cmpR (datR ds x) (datR ds y) (datR ds z)
    omega
theorem grow_of_grew {w w' : World} (h : Grew w w') : ∃ q os, w' = grow (w.drewN q) os := by
  obtain ⟨⟨d, os⟩, hw⟩ := regrown_of_below h.below
  have hd := h.drawn
  subst hw
  refine ⟨d - w.drawn, os, ?_⟩
  have e : w.drawn + (d - w.drawn) = d := by
    have : w.drawn ≤ d := hd
    omega
  show grow (redrawn w d) os = grow { w with drawn := w.drawn + (d - w.drawn) } os
  rw [e]; rfl
theorem cell_sortWorld {enc : Nat → Value} {w : World} {blk off m : Nat} {dk : Array Nat} {os : Array Obj} {a : Addr} {v : Value} (hne : a.block ≠ blk) (h : w.cell? a = some v) : (sortWorld enc w blk off m dk os).cell? a = some v := by
  unfold sortWorld
  rw [cell?_grow _ _ _ (by rw [size_putRow]; exact block_lt_of_cell h), cell?_putRow_other _ _ _ _ _ _ (Or.inl hne), cell?_ahead]
  exact h
theorem row_sortWorld {Q : Nat → Prop} {enc : Nat → Value} {w : World} {blk off m : Nat} {dk : Array Nat} {os : Array Obj} {v : Value} {r : Rw} (hq : ∀ b, Q b → b ≠ blk) (h : RowIn Q w v r) : RowIn Q (sortWorld enc w blk off m dk os) v r := by
  obtain ⟨p, cap, hv, hc, hm, hx⟩ := h
  exact ⟨p, cap, hv, hc, hm, fun hne => let ⟨b, o, hp, hQ, hj⟩ := hx hne; ⟨b, o, hp, hQ, fun j x hjx i u hu => cell_sortWorld (hq b hQ.1) (hj j x hjx i u hu)⟩⟩
theorem below_sortWorld {enc : Nat → Value} {w : World} {blk off m base : Nat} {dk : Array Nat} {os : Array Obj} (hb : base ≤ blk) (hl : base ≤ w.heap.size) : Below base w (sortWorld enc w blk off m dk os) := by
  refine ⟨rfl, rfl, rfl, ?_, fun k hk => ?_⟩
  · unfold sortWorld; rw [size_grow, size_putRow]; exact Nat.le_add_right _ _
  · unfold sortWorld
    rw [heap_grow_old _ _ (by rw [size_putRow]; show k < w.heap.size; omega)]
    show (w.heap.modify blk _)[k]? = _
    rw [Array.getElem?_modify, if_neg (by omega)]
theorem sort_any {Q : Nat → Prop} {hs : List Value} {ds : List Rw} {B n cap base : Nat} {w : World} (hblk : w.heap[B]? = some (.cells hs.toArray 65 (0, 0))) (hq : ∀ b, Q b → b ≠ B) (hh : HeadsIn Q w hs ds) (hn : hs.length = n) (hsz : n * 24 ≤ 140737488355328) (hcap : n ≤ cap) (hbase : base ≤ B) :
    Calls Try.prog 99 #[.slice (some ⟨B, 0, none⟩) n cap, .func (.func 100) #[] #[]] w fun e w' => e = .returned (.tuple #[]) ∧ (∃ hs', SlAt (fun b => b = B) one 1 w' (.slice (some ⟨B, 0, none⟩) n cap) hs' ∧ HeadsIn Q w' hs' (sortR ds)) ∧ Below base w w' := by
  have hB : B < w.heap.size := lt_of_block hblk
  have eg : ∀ args w, (callFunc 100 args).run Try.prog w = .ok (.enter 100 args) w := enters_of Try.func100 (by kernel_rfl) rfl
  have h1 : OneCell (encH hs) := fun i => slice_one (heads_get hh i)
  have hcmp : ∀ size, CmpLays1 Try.prog 100 #[] (encH hs) (cfR ds) B 0 size w := fun size m os dk _ x y =>
    (compareRows_any (row_sortWorld hq (heads_get hh x)).at (row_sortWorld hq (heads_get hh y)).at).mono fun e w' ⟨he, hg⟩ => ⟨he, grow_of_grew hg⟩
  have hsize : (Array.range n).size = n := Array.size_range
  have hget : ∀ j, j < n → (Array.range n)[j]! = j := fun j hj => by rw [getElem!_pos _ j (by rw [hsize]; exact hj)]; simp
  have hH : Holds (encH hs) w B 0 (Array.range n) := fun j hj => by
    rw [hsize] at hj
    rw [hget j hj, Nat.zero_add]
    refine ⟨?_, by simp [World.frozen?, hblk]⟩
    rw [block_cell hblk]
    unfold encH
    rw [List.getD_eq_getElem?_getD, List.getElem?_toArray, List.getElem?_eq_getElem (by omega)]; rfl
  have hS := Any.slices_SortFunc Try.sortL (encH hs) h1 (cfR ds) (swoR ds) 100 #[] B 0 cap (Array.range n) w eg (hcmp _) hH hB (by rw [hsize]; omega)
  rw [hsize] at hS
  refine Calls.mono (show Calls Try.prog 99 _ _ _ from hS) ?_
  rintro e w' ⟨he, d', m, os, hp, hso, rfl⟩
  obtain ⟨hs1, _, hp1⟩ := hp
  rw [hsize] at hs1
  have e1 : d'.extract 0 n = d' := by rw [← hs1]; exact Array.extract_size
  have e2 : (Array.range n).extract 0 n = Array.range n := by
    have := Array.extract_size (xs := Array.range n)
    rwa [hsize] at this
  rw [e1, e2] at hp1
  have hds : ((Array.range n).toList.map (datR ds)) = ds := by
    apply List.ext_getElem?
    intro i
    rw [List.getElem?_map, Array.toList_range]
    have hl : ds.length = n := by rw [← hh.1]; exact hn
    by_cases hi : i < n
    · rw [List.getElem?_range hi, List.getElem?_eq_getElem (by omega)]
      simp only [Option.map_some, datR, List.getD_eq_getElem?_getD]
      rw [List.getElem?_eq_getElem (by omega)]; rfl
    · rw [List.getElem?_eq_none (by simp; omega), List.getElem?_eq_none (by omega)]; rfl
  have hperm : (d'.toList.map (datR ds)).Perm ds := by
    have := hp1.map (datR ds)
    rwa [hds] at this
  have hup : upR (d'.toList.map (datR ds)) := by
    unfold upR
    rw [List.pairwise_map, List.pairwise_iff_getElem]
    intro i j hi hj hij
    have hi' : i < d'.size := by simpa using hi
    have hj' : j < d'.size := by simpa using hj
    have := hso i j (Nat.zero_le _) hij (by omega)
    rw [lt_false, getElem!_pos d' j hj', getElem!_pos d' i hi'] at this
    have hneg := neg_cmpR (datR ds d'[i]) (datR ds d'[j])
    show cmpR (datR ds d'.toList[i]) (datR ds d'.toList[j]) ≤ 0
    rw [Array.getElem_toList, Array.getElem_toList]
    omega
  have hsort := sortR_of hup hperm
  refine ⟨he, ⟨d'.toList.map (encH hs), ?_, ?_⟩, below_sortWorld hbase (by omega)⟩
  · refine ⟨some ⟨B, 0, none⟩, cap, by simp [hs1], ⟨by simp [hs1]; exact hcap, fun h => by cases h⟩, by simp only [List.length_map, Array.length_toList, hs1]; unfold maxLen; omega, fun _ => ⟨B, 0, rfl, ⟨rfl, by simp only [List.length_map, Array.length_toList, hs1]; exact hsz⟩, fun j x hx i u hu => ?_⟩⟩
    match i, hu with
    | 0, hu =>
      simp [one] at hu
      subst hu
      rw [List.getElem?_map] at hx
      obtain ⟨y, hy, rfl⟩ := Option.map_eq_some_iff.1 hx
      have hj : j < d'.size := by simpa using (List.getElem?_eq_some_iff.1 hy).1
      have hy' : d'[j]! = y := by
        rw [getElem!_pos d' j hj]
        have := (List.getElem?_eq_some_iff.1 hy).2
        rwa [Array.getElem_toList] at this
      have hc := cell?_putRow (encH hs) (Sort.ahead w m) B 0 (Array.range n) d' hH (by rw [hs1, hsize]) j hj
      rw [hy'] at hc
      unfold sortWorld
      rw [cell?_grow _ _ _ (by rw [size_putRow]; exact hB)]
      simpa using hc
    | i + 1, hu => simp [one] at hu
  · rw [← hsort]
    refine ⟨by simp, fun j h r h1 h2 => ?_⟩
    rw [List.getElem?_map] at h1 h2
    obtain ⟨y, hy, rfl⟩ := Option.map_eq_some_iff.1 h1
    obtain ⟨y', hy', rfl⟩ := Option.map_eq_some_iff.1 h2
    rw [hy] at hy'
    injection hy' with hy'
    subst hy'
    exact row_sortWorld hq (heads_get hh y)
end Go.Proofs.Ytjfholofgohcjaa
namespace Go.Proofs.Ytjfholofgohcjaa
open Go.RowKit Go.Sort Go.Shelf

def nilS : Value := .slice none 0 0
theorem made_one (z : Value) (n : Nat) : madeCells #[z] n = (List.replicate n z).toArray := by
  unfold madeCells
  apply Array.ext
  · simp
  · intro i h1 h2; simp [Nat.mod_one]
theorem make_rows (n : Nat) (hn : n * 24 ≤ 140737488355328) (W : World) : (Instr.makeSlice 23 (.int .i64 (n : Int)) (.int .i64 (n : Int))).run Try.prog W = .ok (.slice (some ⟨W.heap.size, 0, none⟩) n n) (W.alloc (.cells (List.replicate n nilS).toArray 65)) := by
  obtain ⟨i, hi, h0, h1, h2⟩ := info_parts info35
  have h := run_make W 23 65 i _ Try.underlying23 hi h0 .i64 .i64 (n : Int) (n : Int) (by omega) (Int.le_refl _) (by rw [h2]; omega) (by omega)
  rw [h, h1, Int.toNat_natCast, Nat.mul_one]
  show Result.ok _ (W.alloc (.cells (madeCells #[.slice none 0 0] n) 65)) = _
  rw [made_one]; rfl
/- The rows made so far, behind them what make leaves. -/
def part (hs : List Value) (n : Nat) : Array Value := (hs ++ List.replicate (n - hs.length) nilS).toArray
theorem part_set {hs : List Value} {n : Nat} (h : hs.length < n) (v : Value) : (part hs n).setIfInBounds hs.length v = part (hs ++ [v]) n := by
  obtain ⟨m, hm⟩ : ∃ m, n - hs.length = m + 1 := ⟨n - hs.length - 1, by omega⟩
  unfold part
  rw [hm, show n - (hs ++ [v]).length = m from by simp; omega, List.replicate_succ]
  apply Array.ext'
  simp
theorem part_all {hs : List Value} {n : Nat} (h : hs.length = n) : part hs n = hs.toArray := by
  unfold part; rw [h, Nat.sub_self]; simp
theorem heads_snoc {Q : Nat → Prop} {w : World} {hs : List Value} {ds : List Rw} {h : Value} {r : Rw} (hh : HeadsIn Q w hs ds) (hr : RowIn Q w h r) : HeadsIn Q w (hs ++ [h]) (ds ++ [r]) := by
  refine ⟨by simp [hh.1], fun j x y hx hy => ?_⟩
  by_cases hj : j < hs.length
  · rw [List.getElem?_append_left hj] at hx
    rw [List.getElem?_append_left (by rw [← hh.1]; exact hj)] at hy
    exact hh.2 j x y hx hy
  · rw [List.getElem?_append_right (by omega)] at hx
    rw [List.getElem?_append_right (by rw [← hh.1]; omega), ← hh.1] at hy
    cases hd : j - hs.length with
    | zero => rw [hd] at hx hy; simp at hx hy; subst hx hy; exact hr
    | succ m => rw [hd] at hx; simp at hx
/- A store into block R leaves slices in other blocks. -/
theorem SlAt.set {α : Type} {Q : Nat → Prop} {enc : α → List Value} {k : Nat} {w : World} {v : Value} {xs : List α} {R i : Nat} {u : Value} (hq : ∀ b, Q b → b ≠ R) (h : SlAt Q enc k w v xs) : SlAt Q enc k (w.setCell ⟨R, i, none⟩ u) v xs := by
  obtain ⟨p, cap, hv, hc, hm, hx⟩ := h
  exact ⟨p, cap, hv, hc, hm, fun hne => let ⟨b, o, hp, hQ, hj⟩ := hx hne; ⟨b, o, hp, hQ, fun j x hjx i' u' hu => (World.cell?_setCell_far _ _ _ _ (fun e => hq b hQ.1 e.symm)).trans (hj j x hjx i' u' hu)⟩⟩
theorem HeadsIn.set {Q : Nat → Prop} {w : World} {hs : List Value} {rs : List Rw} {R i : Nat} {u : Value} (hq : ∀ b, Q b → b ≠ R) (h : HeadsIn Q w hs rs) : HeadsIn Q (w.setCell ⟨R, i, none⟩ u) hs rs := ⟨h.1, fun j x r h1 h2 => SlAt.set hq (h.2 j x r h1 h2)⟩
theorem TabIn.set {Q : Nat → Prop} {w : World} {v : Value} {cs : List Cl} {rs : List Rw} {R i : Nat} {u : Value} (hq : ∀ b, Q b → b ≠ R) (h : TabIn Q w v cs rs) : TabIn Q (w.setCell ⟨R, i, none⟩ u) v cs rs := let ⟨c, r, h0, h1, hs, h2, h3⟩ := h; ⟨c, r, h0, h1.set hq, hs, h2.set hq, h3.set hq⟩
theorem SlAt.lt {α : Type} {Q : Nat → Prop} {enc : α → List Value} {k : Nat} {w : World} {v : Value} {xs : List α} (hk : ∀ x, (enc x).length = k) (hp : 0 < k) (h : SlAt Q enc k w v xs) : SlAt (fun b => Q b ∧ b < w.heap.size) enc k w v xs := by
  obtain ⟨p, cap, hv, hc, hm, hx⟩ := h
  refine ⟨p, cap, hv, hc, hm, fun hne => ?_⟩
  obtain ⟨b, o, hpp, hQ, hj⟩ := hx hne
  refine ⟨b, o, hpp, ⟨⟨hQ.1, ?_⟩, hQ.2⟩, hj⟩
  cases xs with
  | nil => exact absurd rfl hne
  | cons y ys =>
    have h0 := hj 0 y rfl
    have hy : (enc y)[0]? = some ((enc y)[0]'(by rw [hk]; exact hp)) := List.getElem?_eq_getElem _
    exact block_lt_of_cell (h0 0 _ hy)
theorem frozen_no {w : World} {b : Nat} {xs : Array Value} {t : TypeId} (h : w.heap[b]? = some (.cells xs t (0, 0))) (o : Nat) : w.frozen? ⟨b, o, none⟩ = false := by simp [World.frozen?, h]
theorem part_nil {hs : List Value} {n : Nat} (h : hs.length < n) : (part hs n)[hs.length]? = some nilS := by
  unfold part
  rw [List.getElem?_toArray, List.getElem?_append_right (Nat.le_refl _), Nat.sub_self, List.getElem?_replicate, if_pos (by omega)]
theorem take_map_snoc {rs : List Rw} {f : Rw → Rw} {k : Nat} (h : k < rs.length) : (rs.take (k + 1)).map f = (rs.take k).map f ++ [f rs[k]!] := by
  have e : rs[k]! = rs[k] := by rw [List.getElem!_eq_getElem?_getD, List.getElem?_eq_getElem h]; rfl
  rw [List.take_succ_eq_append_getElem h, List.map_append, e]; rfl
theorem below_set {B : Nat} {w w' : World} {R i : Nat} {u : Value} (h : Below B w w') (hR : B ≤ R) : Below B w (w'.setCell ⟨R, i, none⟩ u) := by
  refine ⟨h.os, h.tape, h.output, ?_, fun k hk => ?_⟩
  · exact Nat.le_trans h.size (by rw [World.size_setCell]; exact Nat.le_refl _)
  · rw [Deep.blk_setCell_other _ _ _ _ (by show k ≠ R; omega)]; exact h.block k hk
set_option maxHeartbeats 1000000 in
theorem inOrder_any {Qc : Nat → Prop} {c rv : Value} {cs : List Cl} {rs : List Rw} {g : Nat} {cb : Array Value} {f : Rw → Rw} {w : World} (hc : SlAt Qc Cl.cells 2 w c cs) (hr : RowsAt w rv rs)
    (eg : ∀ args w, (callFunc g args).run Try.prog w = .ok (.enter g args) w)
    (ha : ∀ (W : World) (h : Value) (r : Rw), r ∈ rs → Below w.heap.size w W → RowAt W h r → Calls Try.prog g (#[h] ++ cb) W fun e w' => ∃ v', e = .returned v' ∧ RowIn (fun b => W.heap.size ≤ b) w' v' (f r) ∧ Below W.heap.size W w') :
    Calls Try.prog 54 #[c, rv, .func (.func g) #[] cb] w fun e w' => ∃ v, e = .returned v ∧ TabIn (fun b => Qc b ∨ w.heap.size ≤ b) w' v cs (sortR (rs.map f)) ∧ Below w.heap.size w w' := by
  obtain ⟨hs, hsl, hh⟩ := hr
  have hbnd := SlAt.bound hsl
  obtain ⟨p, cap, rfl, hcap, hmax, hx⟩ := hsl
  unfold maxLen at hmax
  have HX := hid hx
  have HC := hid hc
  have HH := hid hh
  have HAN := hid ha
  clear hx hc hh ha
  generalize hn : hs.length = n at *
  have HN := hid hn
  clear hn
  have hbnd' : n * 24 ≤ 140737488355328 := hbnd
  clear hbnd
  have hmk := make_rows n hbnd'
  have HCL := hid (SlAt.lt cl_len (by omega) HC.out)
  obtain ⟨pc, capc, rfl, -⟩ := HC.out
  clear HC
  generalize cs.length = nc at *
  have hr0 : (part [] n) = Array.replicate n nilS := by unfold part; simp
  go_enter Try.func54, Try.ntmps54
  go_wp2
  have K0 := hid (block_on (alloc_block w (.cells #[.slice none 0 0, .slice none 0 0] 25)) ((Below.refl _ _).alloc (Nat.le_refl _) (.cells (Array.replicate n nilS) 65)))
  have K1 : Hid (((w.alloc (.cells #[.slice none 0 0, .slice none 0 0] 25)).alloc (.cells (Array.replicate n nilS) 65)).heap[w.heap.size + 1]? = some (.cells (part [] n) 65 (0, 0))) := by
    rw [hr0]
    have h := alloc_block (w.alloc (.cells #[.slice none 0 0, .slice none 0 0] 25)) (.cells (Array.replicate n nilS) 65)
    rw [World.size_alloc] at h
    exact h
  have HB0 := hid (((Below.refl w.heap.size w).alloc (Nat.le_refl _) (.cells #[.slice none 0 0, .slice none 0 0] 25)).alloc (by simp) (.cells (Array.replicate n nilS) 65))
  go_loopw [15] (fun i wr => ∃ (k : Nat) (hs' : List Value), k ≤ n ∧ i = .int .i64 k ∧ hs'.length = k ∧ Hid (wr.heap[w.heap.size + 1]? = some (.cells (part hs' n) 65 (0, 0))) ∧ Hid (HeadsIn (fun b => w.heap.size + 1 < b) wr hs' ((rs.take k).map f)) ∧ Hid (wr.heap[w.heap.size]? = some (.cells #[.slice none 0 0, .slice none 0 0] 25 (0, 0))) ∧ Hid (Below w.heap.size w wr)) (fun i _ => n - (intOf i).toNat)
  case atStart => exact ⟨0, [], by omega, rfl, rfl, K1.out, ⟨by simp, fun j h r h1 _ => by simp at h1⟩, K0.out, HB0.out⟩
  case round =>
    obtain ⟨k, hs', hk, rfl, hl, HK1, HH', HK0, HB⟩ := hrel
    by_cases hlt : k < n
    · have hkh : k < hs.length := by rw [HN.out]; exact hlt
      have hkr : k < rs.length := by rw [← HH.out.1]; exact hkh
      obtain ⟨b, o, rfl, -, hj⟩ := HX.out (by intro e; subst e; simp at hkh)
      have hd := head_cell (fun j x hjx => (hj j x hjx).on HB.out) (get!_some hkh)
      have HRow := hid ((HH.out.2 k _ _ (get!_some hkh) (get!_some hkr)).on HB.out)
      have HM := hid (List.mem_of_getElem? (get!_some hkr))
      generalize hs[k]! = hd0 at hd HRow
      have HT := hid (take_map_snoc (f := f) hkr)
      generalize rs[k]! = r0 at HRow HM HT
      clear hj
      have hlt1 := lt_of_block HK1.out
      go_wp2_with (first | (go_at_fn g; refine (HAN.out wr hd0 r0 HM.out HB.out HRow.out).mono ?_; rintro e w1 ⟨v', rfl, hrow, hb1⟩; have HROW := hid hrow; have HB1 := hid hb1; have K1' := hid (block_on HK1.out hb1); have hc1 : w1.cell? ⟨w.heap.size + 1, k, none⟩ = some nilS := (by rw [block_cell K1'.out]; subst hl; exact part_nil hlt); have hf1 := frozen_no K1'.out; obtain ⟨p', cap', rfl, -⟩ := hrow; clear hb1))
      generalize List.length (f r0) = n0 at *
      go_roundw
      case rel =>
        refine ⟨k + 1, hs' ++ [.slice p' n0 cap'], by omega, by go_num, by simp [hl], ?_, ?_, ?_, ?_⟩
        · show _ = _
          rw [Joins.block_setCell K1'.out, ← part_set (by omega), hl]
        · show HeadsIn _ _ _ _
          rw [HT.out]
          exact heads_snoc (HeadsIn.set (fun b (hb : w.heap.size + 1 < b) => by omega) (HH'.out.on HB1.out)) (SlAt.set (fun b (hb : w.heap.size + 1 < b) => by omega) (RowIn.imp HROW.out (fun b (hb : wr.heap.size ≤ b) => by omega)))
        · show _ = _
          rw [Deep.blk_setCell_other _ _ _ _ (by simp)]; exact block_on HK0.out HB1.out
        · exact below_set (below_on HB.out HB1.out) (by omega)
      case measure => simp [intOf]; omega
    · have hks : k = n := by omega
      subst hks
      have hrl : rs.take k = rs := by rw [List.take_of_length_le]; rw [← HH.out.1, HN.out]; exact Nat.le_refl _
      rw [hrl] at HH'
      have K1' := hid HK1.out
      rw [part_all hl] at K1'
      go_wp2_with (first | (go_at_call 99; refine (sort_any (base := w.heap.size + 1) K1'.out (fun b (hb : w.heap.size + 1 < b) => by omega) HH'.out hl hbnd' (Nat.le_refl _) (Nat.le_refl _)).mono ?_; rintro e w2 ⟨rfl, ⟨hs2, hsl, hh2⟩, hb2⟩; have HSL := hid hsl; have HH2 := hid hh2; have HB2 := hid hb2; have K2 := hid ((hb2.block w.heap.size (by omega)).trans HK0.out); have kc := block_cell K2.out; have kf := frozen_no K2.out; clear hsl hh2 hb2))
      refine bodyPost_ret (v := .agg #[.slice pc nc capc, .slice (some ⟨w.heap.size + 1, 0, none⟩) k k]) ?hv rfl ⟨_, rfl, ?ht, ?hb⟩
      case hv =>
        have KF := Joins.block_setCell (i := 1) (Joins.block_setCell (i := 0) K2.out (.slice pc nc capc)) (.slice (some ⟨w.heap.size + 1, 0, none⟩) k k)
        generalize ((w2.setCell ⟨w.heap.size, 0, none⟩ (.slice pc nc capc)).setCell ⟨w.heap.size, 1, none⟩ (.slice (some ⟨w.heap.size + 1, 0, none⟩) k k)) = WF at KF ⊢
        have kcf := block_cell KF
        clear KF kc kf
        simp [results, Try.results54, go_sem, kcf]
      case hb => exact below_set (below_set (HB.out.trans (HB2.out.mono (by omega))) (Nat.le_refl _)) (Nat.le_refl _)
      case ht =>
        refine ⟨_, _, rfl, ?_, hs2, ?_, ?_⟩
        · exact SlAt.imp (SlAt.set (fun b (hb : Qc b ∧ b < w.heap.size) => by omega) (SlAt.set (fun b (hb : Qc b ∧ b < w.heap.size) => by omega) (SlAt.on HCL.out (HB.out.trans (HB2.out.mono (by omega)))))) (fun _ hb => Or.inl hb.1)
        · exact SlAt.imp (SlAt.set (fun b (hb : b = w.heap.size + 1) => by omega) (SlAt.set (fun b (hb : b = w.heap.size + 1) => by omega) HSL.out)) (fun b (hb : b = w.heap.size + 1) => Or.inr (by omega))
        · exact HeadsIn.imp (HeadsIn.set (fun b (hb : w.heap.size + 1 < b) => by omega) (HeadsIn.set (fun b (hb : w.heap.size + 1 < b) => by omega) HH2.out)) (fun b (hb : w.heap.size + 1 < b) => Or.inr (by omega))
end Go.Proofs.Ytjfholofgohcjaa
