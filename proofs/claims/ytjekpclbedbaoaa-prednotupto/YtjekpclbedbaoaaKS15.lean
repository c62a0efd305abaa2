/-
  What table.compareRows returns, for every two rows.
  Rows that are filled one by one; stores beside them.
  What table.Same returns, for every two tables.
  What the reference's Row, SameCols and Same return, for all rows, columns and tables.
  What the reference's Same returns, for every two tables.
  The contracts of Go's library that package pred calls, laid at this program's numbers.
-/
import Derived.Test.YtjekpclbedbaoaaProg
import Derived.Test.YtjekpclbedbaoaaKS13
import Derived.Test.YtjekpclbedbaoaaKS14
import Derived.Laws.MakeOwn
import Derived.Deep.RegionHeld
import Derived.Deep.Heap
import Derived.Shelf.Strings.Search3
namespace Go.Proofs.Ytjekpclbedbaoaa.TN
open Go.RowKit Go.Sort Go.Shelf

theorem cmpR_step {r q : Rw} {k : Nat} (h1 : k < r.length) (h2 : k < q.length) : cmpR (r.drop k) (q.drop k) = thn (cmpL r[k]! q[k]!) (cmpR (r.drop (k + 1)) (q.drop (k + 1))) := by
  have e1 : r[k]! = r[k] := by rw [List.getElem!_eq_getElem?_getD, List.getElem?_eq_getElem h1]; rfl
  have e2 : q[k]! = q[k] := by rw [List.getElem!_eq_getElem?_getD, List.getElem?_eq_getElem h2]; rfl
  rw [List.drop_eq_getElem_cons h1, List.drop_eq_getElem_cons h2, e1, e2]; rfl
theorem cmpR_longer {r q : Rw} {k : Nat} (h1 : k < r.length) (h2 : q.length ≤ k) : cmpR (r.drop k) (q.drop k) = 1 := by
  rw [List.drop_eq_getElem_cons h1, List.drop_eq_nil_of_le h2]; rfl
theorem cmpR_shorter {r q : Rw} {k : Nat} (h1 : r.length ≤ k) (h2 : k < q.length) : cmpR (r.drop k) (q.drop k) = -1 := by
  rw [List.drop_eq_getElem_cons h2, List.drop_eq_nil_of_le h1]; rfl
theorem cmpR_ends {r q : Rw} {k : Nat} (h1 : r.length ≤ k) (h2 : q.length ≤ k) : cmpR (r.drop k) (q.drop k) = 0 := by
  rw [List.drop_eq_nil_of_le h2, List.drop_eq_nil_of_le h1]; rfl
theorem compare_is {x y : Vl} {c : Int} {w : World} (h : cmpL x y = c) : Calls Try.prog 100 #[x.val, y.val] w fun e w' => e = .returned (.int .i64 c) ∧ Grew w w' := by rw [← h]; exact compare_any
set_option maxHeartbeats 1000000 in
theorem compFunc_any {u v : Value} {r q : Rw} {w : World} (hu : RowAt w u r) (hv : RowAt w v q) :
    Calls Try.prog 112 #[u, v, .func (.func 100) #[] #[]] w fun e w' => e = .returned (.int .i64 (cmpR r q)) ∧ Grew w w' := by
  obtain ⟨p, cap, rfl, hcap, hmax, hx⟩ := hu
  obtain ⟨p', cap', rfl, hcap', hmax', hx'⟩ := hv
  unfold maxLen at hmax hmax'
  have eg : ∀ args w, (callFunc 100 args).run Try.prog w = .ok (.enter 100 args) w := enters_of Try.func100 (by kernel_rfl) rfl
  generalize hr : cmpR r q = res
  have HR := hid hr
  have HX := hid hx
  have HX' := hid hx'
  clear hr hx hx'
  generalize hn : r.length = n at *
  generalize hn' : q.length = m at *
  have HN := hid hn
  have HN' := hid hn'
  clear hn hn'
  go_enter Try.func112, Try.ntmps112
  go_wp2
  go_loopw [13] (fun i wr => ∃ k : Nat, k ≤ n ∧ k ≤ m ∧ i = .int .i64 k ∧ Hid (Grew w wr) ∧ Hid (cmpR (r.drop k) (q.drop k) = res)) (fun i _ => n - (intOf i).toNat)
  case atStart => exact ⟨0, by omega, by omega, rfl, Grew.refl _, HR.out⟩
  case round =>
    obtain ⟨k, hk, hk', rfl, HG, HD⟩ := hrel
    by_cases hlt : k < n
    · have hkr : k < r.length := by rw [HN.out]; exact hlt
      obtain ⟨b, o, rfl, -, hj⟩ := HX.out (by intro e; subst e; simp at hkr)
      obtain ⟨c0, c1, c2, c3, c4, c5, c6, c7, c8, c9, c10⟩ := val_cells ((hj k _ (get!_some hkr)).on HG.out.below)
      have hb0 := block_lt_of_cell c0
      generalize hvv : r[k]! = x at c0 c1 c2 c3 c4 c5 c6 c7 c8 c9 c10
      have HVV := hid hvv
      clear hvv hj
      by_cases hlt' : k < m
      · have hkq : k < q.length := by rw [HN'.out]; exact hlt'
        obtain ⟨b', o', rfl, -, hj'⟩ := HX'.out (by intro e; subst e; simp at hkq)
        obtain ⟨d0, d1, d2, d3, d4, d5, d6, d7, d8, d9, d10⟩ := val_cells ((hj' k _ (get!_some hkq)).on HG.out.below)
        have hb0' := block_lt_of_cell d0
        generalize hvv : q[k]! = y at d0 d1 d2 d3 d4 d5 d6 d7 d8 d9 d10
        have HVV' := hid hvv
        clear hvv hj'
        have hnge : ¬ (m : Int) ≤ (k : Int) := by omega
        have HS := hid (cmpR_step hkr hkq)
        rw [HVV.out, HVV'.out] at HS
        by_cases hz : cmpL x y = 0
        · go_wp2_with (first | (go_at_fn 100; refine (compare_is hz).mono ?_; rintro e w2 ⟨rfl, hg2⟩))
          go_roundw
          case rel =>
            refine ⟨k + 1, by omega, by omega, by go_num, ((HG.out.alloc _).alloc _).trans hg2, ?_⟩
            have := HS.out
            rw [HD.out, thn_zero (by simp [hz])] at this
            exact this.symm
          case measure => simp [intOf]; omega
        · generalize hcv : cmpL x y = cv at *
          have hcz : (cv != 0) = true := by simpa using hz
          have HZ := hid hz
          have HCV := hid hcv
          clear hz hcv
          go_wp2_with (first | (go_at_fn 100; refine (compare_is HCV.out).mono ?_; rintro e w2 ⟨rfl, hg2⟩))
          go_ret
          refine ⟨ret_int ?_, ((HG.out.alloc _).alloc _).trans hg2⟩
          have := HS.out
          rw [HD.out, thn_ne hcz] at this
          exact this.symm
      · have hge : (m : Int) ≤ (k : Int) := by omega
        go_wp2
        go_ret
        exact ⟨ret_int ((cmpR_longer hkr (by rw [HN'.out]; omega)).symm.trans HD.out), HG.out.alloc _⟩
    · have hks : k = n := by omega
      subst hks
      by_cases hlt' : k < m
      · go_wp2
        go_ret
        exact ⟨ret_int ((cmpR_shorter (by rw [HN.out]; omega) (by rw [HN'.out]; omega)).symm.trans HD.out), HG.out⟩
      · have hkm : k = m := by omega
        subst hkm
        go_wp2
        go_ret
        exact ⟨ret_int ((cmpR_ends (by rw [HN.out]; omega) (by rw [HN'.out]; omega)).symm.trans HD.out), HG.out⟩
theorem compareRows_any {u v : Value} {r q : Rw} {w : World} (hu : RowAt w u r) (hv : RowAt w v q) :
    Calls Try.prog 91 #[u, v] w fun e w' => e = .returned (.int .i64 (cmpR r q)) ∧ Grew w w' := by
  have HC := hid (compFunc_any hu hv)
  clear hu hv
  generalize cmpR r q = res at *
  go_enter Try.func91, Try.ntmps91
  go_wp2_with (go_at_call 112; refine HC.out.mono ?_; rintro e w2 ⟨rfl, hg2⟩)
  go_ret
  exact ⟨rfl, hg2⟩
end Go.Proofs.Ytjekpclbedbaoaa.TN
namespace Go.Proofs.Ytjekpclbedbaoaa.TN
open Go.RowKit Go.Sort Go.Shelf

def nilS : Value := .slice none 0 0
theorem made_one (z : Value) (n : Nat) : madeCells #[z] n = (List.replicate n z).toArray := by
  unfold madeCells
  apply Array.ext
  · simp
  · intro i h1 h2; simp [Nat.mod_one]
theorem make_rows (n : Nat) (hn : n * 24 ≤ 140737488355328) (W : World) : (Instr.makeSlice 23 (.int .i64 (n : Int)) (.int .i64 (n : Int))).run Try.prog W = .ok (.slice (some ⟨W.heap.size, 0, none⟩) n n) (W.alloc (.cells (List.replicate n nilS).toArray 48)) := by
  obtain ⟨i, hi, h0, h1, h2⟩ := info_parts info35
  have h := run_make W 23 48 i _ Try.underlying23 hi h0 .i64 .i64 (n : Int) (n : Int) (by omega) (Int.le_refl _) (by rw [h2]; omega) (by omega)
  rw [h, h1, Int.toNat_natCast, Nat.mul_one]
  show Result.ok _ (W.alloc (.cells (madeCells #[.slice none 0 0] n) 48)) = _
  rw [made_one]; rfl
/- The rows made so far, behind them what make leaves. -/
def part (hs : List Value) (n : Nat) : Array Value := (hs ++ List.replicate (n - hs.length) nilS).toArray
theorem part_set {hs : List Value} {n : Nat} (h : hs.length < n) (v : Value) : (part hs n).setIfInBounds hs.length v = part (hs ++ [v]) n := by
  obtain ⟨m, hm⟩ : ∃ m, n - hs.length = m + 1 := ⟨n - hs.length - 1, by omega⟩
  unfold part
  rw [hm, show n - (hs ++ [v]).length = m from by simp; omega, List.replicate_succ]
  apply Array.ext'
  simp
theorem part_all {hs : List Value} {n : Nat} (h : hs.length = n) : part hs n = hs.toArray := by
  unfold part; rw [h, Nat.sub_self]; simp
theorem heads_snoc {Q : Nat → Prop} {w : World} {hs : List Value} {ds : List Rw} {h : Value} {r : Rw} (hh : HeadsIn Q w hs ds) (hr : RowIn Q w h r) : HeadsIn Q w (hs ++ [h]) (ds ++ [r]) := by
  refine ⟨by simp [hh.1], fun j x y hx hy => ?_⟩
  by_cases hj : j < hs.length
  · rw [List.getElem?_append_left hj] at hx
    rw [List.getElem?_append_left (by rw [← hh.1]; exact hj)] at hy
    exact hh.2 j x y hx hy
  · rw [List.getElem?_append_right (by omega)] at hx
    rw [List.getElem?_append_right (by rw [← hh.1]; omega), ← hh.1] at hy
    cases hd : j - hs.length with
    | zero => rw [hd] at hx hy; simp at hx hy; subst hx hy; exact hr
    | succ m => rw [hd] at hx; simp at hx
/- A store into block R leaves slices in other blocks. -/
theorem SlAt.set {α : Type} {Q : Nat → Prop} {enc : α → List Value} {k : Nat} {w : World} {v : Value} {xs : List α} {R i : Nat} {u : Value} (hq : ∀ b, Q b → b ≠ R) (h : SlAt Q enc k w v xs) : SlAt Q enc k (w.setCell ⟨R, i, none⟩ u) v xs := by
  obtain ⟨p, cap, hv, hc, hm, hx⟩ := h
  exact ⟨p, cap, hv, hc, hm, fun hne => let ⟨b, o, hp, hQ, hj⟩ := hx hne; ⟨b, o, hp, hQ, fun j x hjx i' u' hu => (World.cell?_setCell_far _ _ _ _ (fun e => hq b hQ.1 e.symm)).trans (hj j x hjx i' u' hu)⟩⟩
theorem HeadsIn.set {Q : Nat → Prop} {w : World} {hs : List Value} {rs : List Rw} {R i : Nat} {u : Value} (hq : ∀ b, Q b → b ≠ R) (h : HeadsIn Q w hs rs) : HeadsIn Q (w.setCell ⟨R, i, none⟩ u) hs rs := ⟨h.1, fun j x r h1 h2 => SlAt.set hq (h.2 j x r h1 h2)⟩
theorem TabIn.set {Q : Nat → Prop} {w : World} {v : Value} {cs : List Cl} {rs : List Rw} {R i : Nat} {u : Value} (hq : ∀ b, Q b → b ≠ R) (h : TabIn Q w v cs rs) : TabIn Q (w.setCell ⟨R, i, none⟩ u) v cs rs := let ⟨c, r, h0, h1, hs, h2, h3⟩ := h; ⟨c, r, h0, h1.set hq, hs, h2.set hq, h3.set hq⟩
theorem SlAt.lt {α : Type} {Q : Nat → Prop} {enc : α → List Value} {k : Nat} {w : World} {v : Value} {xs : List α} (hk : ∀ x, (enc x).length = k) (hp : 0 < k) (h : SlAt Q enc k w v xs) : SlAt (fun b => Q b ∧ b < w.heap.size) enc k w v xs := by
  obtain ⟨p, cap, hv, hc, hm, hx⟩ := h
  refine ⟨p, cap, hv, hc, hm, fun hne => ?_⟩
  obtain ⟨b, o, hpp, hQ, hj⟩ := hx hne
  refine ⟨b, o, hpp, ⟨⟨hQ.1, ?_⟩, hQ.2⟩, hj⟩
  cases xs with
  | nil => exact absurd rfl hne
  | cons y ys =>
    have h0 := hj 0 y rfl
    have hy : (enc y)[0]? = some ((enc y)[0]'(by rw [hk]; exact hp)) := List.getElem?_eq_getElem _
    exact block_lt_of_cell (h0 0 _ hy)
theorem frozen_no {w : World} {b : Nat} {xs : Array Value} {t : TypeId} (h : w.heap[b]? = some (.cells xs t (0, 0))) (o : Nat) : w.frozen? ⟨b, o, none⟩ = false := by simp [World.frozen?, h]
theorem part_nil {hs : List Value} {n : Nat} (h : hs.length < n) : (part hs n)[hs.length]? = some nilS := by
  unfold part
  rw [List.getElem?_toArray, List.getElem?_append_right (Nat.le_refl _), Nat.sub_self, List.getElem?_replicate, if_pos (by omega)]
theorem take_map_snoc {rs : List Rw} {f : Rw → Rw} {k : Nat} (h : k < rs.length) : (rs.take (k + 1)).map f = (rs.take k).map f ++ [f rs[k]!] := by
  have e : rs[k]! = rs[k] := by rw [List.getElem!_eq_getElem?_getD, List.getElem?_eq_getElem h]; rfl
  rw [List.take_succ_eq_append_getElem h, List.map_append, e]; rfl
theorem below_set {B : Nat} {w w' : World} {R i : Nat} {u : Value} (h : Below B w w') (hR : B ≤ R) : Below B w (w'.setCell ⟨R, i, none⟩ u) := by
  refine ⟨h.os, h.tape, h.output, ?_, fun k hk => ?_⟩
  · exact Nat.le_trans h.size (by rw [World.size_setCell]; exact Nat.le_refl _)
  · rw [Deep.blk_setCell_other _ _ _ _ (by show k ≠ R; omega)]; exact h.block k hk
end Go.Proofs.Ytjekpclbedbaoaa.TN
namespace Go.Proofs.Ytjekpclbedbaoaa.TN
open Go.RowKit Go.Sort Go.Shelf

theorem neqV : NeqAt Try.prog 40 (fun x : Vl => .agg x.cells.toArray) eqL := by
  refine ⟨fun x y w => ?_, GuardAt.agg _ (by kernel_rfl)⟩
  have he := eql24 x.k x.n x.s x.h0 x.h1 x.h2 x.h3 x.h4 x.h5 x.h6 x.h7 y.k y.n y.s y.h0 y.h1 y.h2 y.h3 y.h4 y.h5 y.h6 y.h7 w
  show Sem.run Try.prog (binOp .neq 40 x.val y.val) w = _
  rw [show eqL x y = eqV x.k x.n x.s x.h0 x.h1 x.h2 x.h3 x.h4 x.h5 x.h6 x.h7 y.k y.n y.s y.h0 y.h1 y.h2 y.h3 y.h4 y.h5 y.h6 y.h7 from rfl]
  generalize eqV x.k x.n x.s x.h0 x.h1 x.h2 x.h3 x.h4 x.h5 x.h6 x.h7 y.k y.n y.s y.h0 y.h1 y.h2 y.h3 y.h4 y.h5 y.h6 y.h7 = r at he ⊢
  have he' : Sem.run Try.prog (Op.equalIn Op.maxDepth 40 x.val y.val) w = .ok r w := he
  simp [binOp, Op.equal, he']
theorem neqC : NeqAt Try.prog 57 (fun x : Cl => .agg x.cells.toArray) eqC := by
  refine ⟨fun x y w => ?_, GuardAt.agg _ (by kernel_rfl)⟩
  have u3 := Try.underlying3
  have a3 := Try.isAgg3
  have z3 := Try.sizeOf3
  have u9 := Try.underlying9
  have a9 := Try.isAgg9
  have z9 := Try.sizeOf9
  have hS : Try.prog.underlying 57 = some (.struct (Try.prog.fieldsOf 57)) := by kernel_rfl
  have hb := bytes_beq x.nm y.nm
  have he : (Op.equalIn 10000 57 (.agg #[.string x.nm, .int .i64 x.kd]) (.agg #[.string y.nm, .int .i64 y.kd])).run Try.prog w = .ok (eqC x y) w := by
    rw [show (10000 : Nat) = 9999 + 1 from rfl, run_equalIn_agg w 9999 57 _ _ hS Try.stoodInHeld57]
    simp only [Program.fieldsOf, Try.underlying57]
    go_simp
    unfold eqC
    by_cases h1 : x.nm = y.nm <;> by_cases h2 : x.kd = y.kd <;> simp [h1, h2]
  show Sem.run Try.prog (binOp .neq 57 (.agg #[.string x.nm, .int .i64 x.kd]) (.agg #[.string y.nm, .int .i64 y.kd])) w = _
  generalize eqC x y = r at he ⊢
  have he' : Sem.run Try.prog (Op.equalIn Op.maxDepth 57 (.agg #[.string x.nm, .int .i64 x.kd]) (.agg #[.string y.nm, .int .i64 y.kd])) w = .ok r w := he
  simp [binOp, Op.equal, he']
theorem allEq_iff {α : Type} [Inhabited α] [DecidableEq α] {eq : α → α → Bool} (heq : ∀ x y, eq x y = true ↔ x = y) : ∀ (xs ys : List α), Lib.allEq eq xs ys = decide (xs = ys)
  | [], [] => by simp [Lib.allEq]
  | [], _ :: _ => by simp [Lib.allEq]
  | _ :: _, [] => by simp [Lib.allEq]
  | x :: xs, y :: ys => by
    have := allEq_iff heq xs ys
    by_cases h : eq x y = true
    · have hxy := (heq x y).1 h
      subst hxy
      simp [Lib.allEq, h, this]
    · have hxy : ¬ x = y := fun e => h ((heq x y).2 e)
      simp [Lib.allEq, h, hxy]
theorem rows_ne {rs qs : List Rw} {k : Nat} (h : ¬ rs[k]! = qs[k]!) : ¬ rs = qs := fun e => h (by rw [e])
theorem rows_eq {rs qs : List Rw} (h1 : rs.length = qs.length) (h : ∀ k, k < rs.length → rs[k]! = qs[k]!) : rs = qs := by
  apply List.ext_getElem h1
  intro i hi hi'
  have := h i hi
  rw [List.getElem!_eq_getElem?_getD, List.getElem!_eq_getElem?_getD, List.getElem?_eq_getElem hi, List.getElem?_eq_getElem hi'] at this
  exact this
end Go.Proofs.Ytjekpclbedbaoaa.TN
namespace Go.Proofs.Ytjekpclbedbaoaa.TN
open Go.RowKit Go.Sort Go.Shelf

theorem regrown_cell {w : World} {a : Addr} {v : Value} (h : w.cell? a = some v) (d : Nat) (os : Array Obj) : (grow (redrawn w d) os).cell? a = some v :=
  ((below_regrown w d os).cell (block_lt_of_cell h)).trans h
theorem rcompare_is {x y : Vl} {c : Int} {w : World} (h : cmpL x y = c) : Calls Try.prog 46 #[x.val, y.val] w fun e w' => e = .returned (.int .i64 c) ∧ Below w.heap.size w w' := by rw [← h]; exact rcompare_any x.small y.small
set_option maxHeartbeats 1000000 in
theorem rrow_any {u v : Value} {r q : Rw} {w : World} (hu : RowAt w u r) (hv : RowAt w v q) :
    Calls Try.prog 25 #[u, v] w fun e w' => e = .returned (.int .i64 (cmpR r q)) ∧ Below w.heap.size w w' := by
  obtain ⟨p, cap, rfl, hcap, hmax, hx⟩ := hu
  obtain ⟨p', cap', rfl, hcap', hmax', hx'⟩ := hv
  unfold maxLen at hmax hmax'
  generalize hr : cmpR r q = res
  have HR := hid hr
  have HX := hid hx
  have HX' := hid hx'
  clear hr hx hx'
  generalize hn : r.length = n at *
  generalize hn' : q.length = m at *
  have HN := hid hn
  have HN' := hid hn'
  clear hn hn'
  go_enter Try.func25, Try.ntmps25
  go_wp2
  go_loopw [5] (fun i wr => ∃ k : Nat, k ≤ n ∧ k ≤ m ∧ i = .int .i64 k ∧ Hid (Below w.heap.size w wr) ∧ Hid (cmpR (r.drop k) (q.drop k) = res)) (fun i _ => n - (intOf i).toNat)
  case atStart => exact ⟨0, by omega, by omega, rfl, Below.refl _ _, HR.out⟩
  case round =>
    obtain ⟨k, hk, hk', rfl, HG, HD⟩ := hrel
    by_cases hlt : k < n
    · have hkr : k < r.length := by rw [HN.out]; exact hlt
      by_cases hlt' : k < m
      · have hkq : k < q.length := by rw [HN'.out]; exact hlt'
        obtain ⟨b, o, rfl, -, hj⟩ := HX.out (by intro e; subst e; simp at hkr)
        obtain ⟨b', o', rfl, -, hj'⟩ := HX'.out (by intro e; subst e; simp at hkq)
        obtain ⟨c0, c1, c2, c3, c4, c5, c6, c7, c8, c9, c10⟩ := val_cells ((hj k _ (get!_some hkr)).on HG.out)
        obtain ⟨d0, d1, d2, d3, d4, d5, d6, d7, d8, d9, d10⟩ := val_cells ((hj' k _ (get!_some hkq)).on HG.out)
        have HS := hid (cmpR_step hkr hkq)
        generalize r[k]! = x at c0 c1 c2 c3 c4 c5 c6 c7 c8 c9 c10 HS
        generalize q[k]! = y at d0 d1 d2 d3 d4 d5 d6 d7 d8 d9 d10 HS
        clear hj hj'
        replace c0 := regrown_cell c0
        replace c1 := regrown_cell c1
        replace c2 := regrown_cell c2
        replace c3 := regrown_cell c3
        replace c4 := regrown_cell c4
        replace c5 := regrown_cell c5
        replace c6 := regrown_cell c6
        replace c7 := regrown_cell c7
        replace c8 := regrown_cell c8
        replace c9 := regrown_cell c9
        replace c10 := regrown_cell c10
        replace d0 := regrown_cell d0
        replace d1 := regrown_cell d1
        replace d2 := regrown_cell d2
        replace d3 := regrown_cell d3
        replace d4 := regrown_cell d4
        replace d5 := regrown_cell d5
        replace d6 := regrown_cell d6
        replace d7 := regrown_cell d7
        replace d8 := regrown_cell d8
        replace d9 := regrown_cell d9
        replace d10 := regrown_cell d10
        by_cases hz : cmpL x y = 0
        · have HZ := hid hz
          clear hz
          go_wp2_with fail
          refine wp_region_quiet_below (by kernel_rfl) (by kernel_rfl) ?_
          repeat (go_big_quiet_step (first | (go_at_call 46; exact Calls.regrown_of (rcompare_is HZ.out))))
          refine wpQuiet_nil ?_
          intro _ hw'
          obtain ⟨⟨dq, osq⟩, hw''⟩ := hw'
          subst hw''
          go_wp2
          go_roundw
          case rel =>
            refine ⟨k + 1, by omega, by omega, by go_num, below_on HG.out (below_regrown wr dq osq), ?_⟩
            have := HS.out
            rw [HD.out, thn_zero (by simp [HZ.out])] at this
            exact this.symm
          case measure => simp [intOf]; omega
        · generalize hcv : cmpL x y = cv at *
          have hcz : (cv != 0) = true := by simpa using hz
          have HZ := hid hz
          have HCV := hid hcv
          clear hz hcv
          go_wp2_with fail
          refine wp_region_quiet_below (by kernel_rfl) (by kernel_rfl) ?_
          repeat (go_big_quiet_step (first | (go_at_call 46; exact Calls.regrown_of (rcompare_is HCV.out))))
          refine wpQuiet_nil ?_
          intro _ hw'
          obtain ⟨⟨dq, osq⟩, hw''⟩ := hw'
          subst hw''
          go_wp2
          go_ret
          refine ⟨ret_int ?_, below_on HG.out (below_regrown wr dq osq)⟩
          have := HS.out
          rw [HD.out, thn_ne hcz] at this
          exact this.symm
      · have hnl : decide ((k : Int) < (m : Int)) = false := by simp; omega
        have hkm : k = m := by omega
        subst hkm
        have hnm : ¬ (n : Int) < (k : Int) := by omega
        go_wp2
        go_ret
        exact ⟨ret_int ((cmpR_longer hkr (by rw [HN'.out]; omega)).symm.trans HD.out), HG.out⟩
    · have hks : k = n := by omega
      subst hks
      by_cases hlt' : k < m
      · go_wp2
        go_ret
        exact ⟨ret_int ((cmpR_shorter (by rw [HN.out]; omega) (by rw [HN'.out]; omega)).symm.trans HD.out), HG.out⟩
      · have hkm : k = m := by omega
        subst hkm
        go_wp2
        go_ret
        exact ⟨ret_int ((cmpR_ends (by rw [HN.out]; omega) (by rw [HN'.out]; omega)).symm.trans HD.out), HG.out⟩
theorem cols_ne {cs ds : List Cl} {k : Nat} (h : ¬ cs[k]! = ds[k]!) : ¬ cs = ds := fun e => h (by rw [e])
theorem cols_eq {cs ds : List Cl} (h1 : cs.length = ds.length) (h : ∀ k, k < cs.length → cs[k]! = ds[k]!) : cs = ds := by
  apply List.ext_getElem h1
  intro i hi hi'
  have := h i hi
  rw [List.getElem!_eq_getElem?_getD, List.getElem!_eq_getElem?_getD, List.getElem?_eq_getElem hi, List.getElem?_eq_getElem hi'] at this
  exact this
set_option maxHeartbeats 1000000 in
theorem samecols_any {u v : Value} {cs ds : List Cl} {w : World} (hu : ColsAt w u cs) (hv : ColsAt w v ds) :
    Calls Try.prog 26 #[u, v] w fun e w' => e = .returned (.bool (decide (cs = ds))) ∧ Below w.heap.size w w' := by
  obtain ⟨p, cap, rfl, hcap, hmax, hx⟩ := hu
  obtain ⟨p', cap', rfl, hcap', hmax', hx'⟩ := hv
  unfold maxLen at hmax hmax'
  generalize hr : decide (cs = ds) = res
  have HR := hid hr
  have HX := hid hx
  have HX' := hid hx'
  clear hr hx hx'
  generalize hn : cs.length = n at *
  generalize hn' : ds.length = m at *
  have HN := hid hn
  have HN' := hid hn'
  clear hn hn'
  by_cases hl : n = m
  · subst hl
    go_enter Try.func26, Try.ntmps26
    go_wp2
    go_loopw [5] (fun i wr => ∃ k : Nat, k ≤ n ∧ i = .int .i64 k ∧ Hid (Below w.heap.size w wr) ∧ Hid (∀ j, j < k → cs[j]! = ds[j]!)) (fun i _ => n - (intOf i).toNat)
    case atStart => exact ⟨0, by omega, rfl, Below.refl _ _, fun j h => absurd h (Nat.not_lt_zero _)⟩
    case round =>
      obtain ⟨k, hk, rfl, HB, HA⟩ := hrel
      by_cases hlt : k < n
      · have hkc : k < cs.length := by rw [HN.out]; exact hlt
        have hkd : k < ds.length := by rw [HN'.out]; exact hlt
        obtain ⟨b, o, rfl, -, hj⟩ := HX.out (by intro e; subst e; simp at hkc)
        obtain ⟨b', o', rfl, -, hj'⟩ := HX'.out (by intro e; subst e; simp at hkd)
        obtain ⟨c0, c1⟩ := col_cells ((hj k _ (get!_some hkc)).on HB.out)
        obtain ⟨d0, d1⟩ := col_cells ((hj' k _ (get!_some hkd)).on HB.out)
        have HNE := hid (cols_ne (cs := cs) (ds := ds) (k := k))
        have HSTEP : Hid (cs[k]! = ds[k]! → ∀ j, j < k + 1 → cs[j]! = ds[j]!) := fun e j hj => by
          by_cases h : j = k
          · subst h; exact e
          · exact HA.out j (by omega)
        generalize cs[k]! = x at c0 c1 HNE HSTEP
        generalize ds[k]! = y at d0 d1 HNE HSTEP
        clear hj hj'
        have hq : ∀ w : World, Sem.run Try.prog (binOp .neq 57 (.agg #[.string x.nm, .int .i64 x.kd]) (.agg #[.string y.nm, .int .i64 y.kd])) w = .ok (.bool (!eqC x y)) w := fun w => neqC.1 x y w
        cases hb : eqC x y with
        | true =>
          have HE := hid ((eqC_iff x y).1 hb)
          simp only [hb] at hq
          clear hb
          go_wp2_with fail
          go_quiet (fail)
          go_wp2
          go_roundw
          case rel => exact ⟨k + 1, by omega, by go_num, below_drewN HB.out _, HSTEP.out HE.out⟩
          case measure => simp [intOf]; omega
        | false =>
          have HE := hid (show ¬ x = y from fun e => by rw [(eqC_iff x y).2 e] at hb; cases hb)
          simp only [hb] at hq
          clear hb
          go_wp2_with fail
          go_quiet (fail)
          go_wp2
          go_ret
          exact ⟨ret_bool ((decide_eq_false (HNE.out HE.out)).symm.trans HR.out), below_drewN HB.out _⟩
      · have hks : k = n := by omega
        subst hks
        go_wp2
        go_ret
        exact ⟨ret_bool ((decide_eq_true (cols_eq (by rw [HN.out, HN'.out]) (by rw [HN.out]; exact HA.out))).symm.trans HR.out), HB.out⟩
  · have hne : ((n : Int) != (m : Int)) = true := by simp; omega
    go_enter Try.func26, Try.ntmps26
    go_wp2
    go_ret
    refine ⟨ret_bool ((decide_eq_false ?_).symm.trans HR.out), Below.refl _ _⟩
    intro e
    subst e
    exact hl (HN.out.symm.trans HN'.out)
end Go.Proofs.Ytjekpclbedbaoaa.TN
namespace Go.Proofs.Ytjekpclbedbaoaa.TN
open Go.RowKit Go.Sort Go.Shelf

theorem samecols_is {u v : Value} {r q : List Cl} {w : World} {c : Bool} (hu : ColsAt w u r) (hv : ColsAt w v q) (h : decide (r = q) = c) :
    Calls Try.prog 26 #[u, v] w fun e w' => e = .returned (.bool c) ∧ Below w.heap.size w w' := by rw [← h]; exact samecols_any hu hv
theorem rrow_is {u v : Value} {r q : Rw} {w : World} {c : Int} (hu : RowAt w u r) (hv : RowAt w v q) (h : cmpR r q = c) :
    Calls Try.prog 25 #[u, v] w fun e w' => e = .returned (.int .i64 c) ∧ Below w.heap.size w w' := by rw [← h]; exact rrow_any hu hv
set_option maxHeartbeats 1000000 in
theorem rsame_any {u v : Value} {cs ds : List Cl} {rs qs : List Rw} {w : World} (hu : TabAt w u cs rs) (hv : TabAt w v ds qs) :
    Calls Try.prog 15 #[u, v] w fun e w' => e = .returned (.bool (decide (cs = ds ∧ rs = qs))) ∧ Below w.heap.size w w' := by
  obtain ⟨c, r, rfl, hc, hs, ⟨p, cap, rfl, hcap, hmax, hx⟩, hh⟩ := hu
  obtain ⟨c', r', rfl, hc', hs', ⟨p', cap', rfl, hcap', hmax', hx'⟩, hh'⟩ := hv
  unfold maxLen at hmax hmax'
  generalize hn : hs.length = n at *
  generalize hn' : hs'.length = m at *
  have HN := hid hn
  have HN' := hid hn'
  clear hn hn'
  have HC := hid hc
  have HC' := hid hc'
  have HX := hid hx
  have HX' := hid hx'
  have HH := hid hh
  have HH' := hid hh'
  clear hc hc' hx hx' hh hh'
  have HB : Hid (Below w.heap.size w ((w.alloc (.cells #[c, .slice p n cap] 25)).alloc (.cells #[c', .slice p' m cap'] 25))) := ((Below.refl w.heap.size w).alloc (Nat.le_refl _) _).alloc (by simp) _
  have K0 := hid (block_on (alloc_block w (.cells #[c, .slice p n cap] 25)) ((Below.refl _ _).alloc (Nat.le_refl _) (.cells #[c', .slice p' m cap'] 25)))
  have K1 : Hid (((w.alloc (.cells #[c, .slice p n cap] 25)).alloc (.cells #[c', .slice p' m cap'] 25)).heap[w.heap.size + 1]? = some (.cells #[c', .slice p' m cap'] 25 (0, 0))) := by
    have h := alloc_block (w.alloc (.cells #[c, .slice p n cap] 25)) (.cells #[c', .slice p' m cap'] 25)
    rw [World.size_alloc] at h
    exact h
  cases hcd : decide (cs = ds) with
  | false =>
    have he : decide (cs = ds ∧ rs = qs) = false := decide_eq_false fun h => of_decide_eq_false hcd h.1
    rw [he]
    go_enter Try.func15, Try.ntmps15
    go_wp2_with (first | (go_at_call 26; refine (samecols_is (HC.out.on HB.out) (HC'.out.on HB.out) hcd).mono ?_; rintro e w1 ⟨rfl, hb1⟩))
    go_ret
    exact ⟨rfl, below_on HB.out hb1⟩
  | true =>
    have he : decide (cs = ds ∧ rs = qs) = decide (rs = qs) := by
      have := of_decide_eq_true hcd
      by_cases h : rs = qs <;> simp [this, h]
    rw [he]
    clear he
    generalize hr : decide (rs = qs) = res
    have HR := hid hr
    clear hr
    by_cases hl : n = m
    · subst hl
      go_enter Try.func15, Try.ntmps15
      go_wp2_with (first | (go_at_call 26; refine (samecols_is (HC.out.on HB.out) (HC'.out.on HB.out) hcd).mono ?_; rintro e w1 ⟨rfl, hb1⟩; have HB1 := hid (below_on HB.out hb1); have HK0 := hid (block_on K0.out hb1); have HK1 := hid (block_on K1.out hb1); have k0 := block_cell HK0.out; have k1 := block_cell HK1.out; clear hb1))
      go_loopw [5] (fun i wr => ∃ k : Nat, k ≤ n ∧ i = .int .i64 k ∧ Hid (Below w.heap.size w wr) ∧ Hid (wr.heap[w.heap.size]? = some (.cells #[c, .slice p n cap] 25 (0, 0))) ∧ Hid (wr.heap[w.heap.size + 1]? = some (.cells #[c', .slice p' n cap'] 25 (0, 0))) ∧ Hid (∀ j, j < k → rs[j]! = qs[j]!)) (fun i _ => n - (intOf i).toNat)
      case atStart => exact ⟨0, by omega, rfl, HB1.out, HK0.out, HK1.out, fun j h => absurd h (Nat.not_lt_zero _)⟩
      case round =>
        clear k0 k1 HK0 HK1
        obtain ⟨k, hk, rfl, HB2, HK0, HK1, HA⟩ := hrel
        by_cases hlt : k < n
        · have hkh : k < hs.length := by rw [HN.out]; exact hlt
          have hkr : k < rs.length := by rw [← HH.out.1]; exact hkh
          have hkh' : k < hs'.length := by rw [HN'.out]; exact hlt
          have hkr' : k < qs.length := by rw [← HH'.out.1]; exact hkh'
          obtain ⟨b, o, rfl, -, hj⟩ := HX.out (by intro e; subst e; simp at hkh)
          obtain ⟨b', o', rfl, -, hj'⟩ := HX'.out (by intro e; subst e; simp at hkh')
          have hd := head_cell (fun j x hjx => (hj j x hjx).on HB2.out) (get!_some hkh)
          have hd' := head_cell (fun j x hjx => (hj' j x hjx).on HB2.out) (get!_some hkh')
          have HRow := hid ((HH.out.2 k _ _ (get!_some hkh) (get!_some hkr)).on HB2.out)
          have HRow' := hid ((HH'.out.2 k _ _ (get!_some hkh') (get!_some hkr')).on HB2.out)
          generalize hs[k]! = hd0 at hd HRow
          generalize hs'[k]! = hd0' at hd' HRow'
          clear hj hj'
          have HNE := hid (rows_ne (rs := rs) (qs := qs) (k := k))
          have HSTEP : Hid (rs[k]! = qs[k]! → ∀ j, j < k + 1 → rs[j]! = qs[j]!) := fun e j hj => by
            by_cases h : j = k
            · subst h; exact e
            · exact HA.out j (by omega)
          generalize rs[k]! = r0 at HRow HNE HSTEP
          generalize qs[k]! = q0 at HRow' HNE HSTEP
          have k0 := block_cell HK0.out
          have k1 := block_cell HK1.out
          have kk0 : ∀ d os j, (grow (redrawn wr d) os).cell? ⟨w.heap.size, j, none⟩ = (#[c, .slice (some ⟨b, o, none⟩) n cap] : Array Value)[j]? := fun d os j => block_cell (block_on HK0.out (below_regrown wr d os)) j
          have kk1 : ∀ d os j, (grow (redrawn wr d) os).cell? ⟨w.heap.size + 1, j, none⟩ = (#[c', .slice (some ⟨b', o', none⟩) n cap'] : Array Value)[j]? := fun d os j => block_cell (block_on HK1.out (below_regrown wr d os)) j
          have hd2 := regrown_cell hd
          have hd2' := regrown_cell hd'
          have HRw : ∀ d os, Hid (RowAt (grow (redrawn wr d) os) hd0 r0) := fun d os => HRow.out.on (below_regrown wr d os)
          have HRw' : ∀ d os, Hid (RowAt (grow (redrawn wr d) os) hd0' q0) := fun d os => HRow'.out.on (below_regrown wr d os)
          clear hd hd'
          by_cases hz : cmpR r0 q0 = 0
          · have HZ := hid hz
            clear hz
            go_wp2_with fail
            refine wp_region_quiet_below (by kernel_rfl) (by kernel_rfl) ?_
            repeat (go_big_quiet_step (first | (go_at_call 25; exact Calls.regrown_of (rrow_is (HRw _ _).out (HRw' _ _).out HZ.out))))
            refine wpQuiet_nil ?_
            intro _ hw'
            obtain ⟨⟨dq, osq⟩, hw''⟩ := hw'
            subst hw''
            go_wp2
            go_roundw
            case rel => exact ⟨k + 1, by omega, by go_num, below_on HB2.out (below_regrown wr dq osq), block_on HK0.out (below_regrown wr dq osq), block_on HK1.out (below_regrown wr dq osq), HSTEP.out ((cmpR_zero _ _).1 HZ.out)⟩
            case measure => simp [intOf]; omega
          · generalize hcv : cmpR r0 q0 = cv at *
            have hcz : (cv != 0) = true := by simpa using hz
            have HZ := hid (show ¬ r0 = q0 from fun e => hz (hcv.symm.trans ((cmpR_zero _ _).2 e)))
            have HCV := hid hcv
            clear hz hcv
            go_wp2_with fail
            refine wp_region_quiet_below (by kernel_rfl) (by kernel_rfl) ?_
            repeat (go_big_quiet_step (first | (go_at_call 25; exact Calls.regrown_of (rrow_is (HRw _ _).out (HRw' _ _).out HCV.out))))
            refine wpQuiet_nil ?_
            intro _ hw'
            obtain ⟨⟨dq, osq⟩, hw''⟩ := hw'
            subst hw''
            go_wp2
            go_ret
            exact ⟨ret_bool ((decide_eq_false (HNE.out HZ.out)).symm.trans HR.out), below_on HB2.out (below_regrown wr dq osq)⟩
        · have hks : k = n := by omega
          subst hks
          have k0 := block_cell HK0.out
          go_wp2
          go_ret
          exact ⟨ret_bool ((decide_eq_true (rows_eq (by rw [← HH.out.1, ← HH'.out.1, HN.out, HN'.out]) (by rw [← HH.out.1, HN.out]; exact HA.out))).symm.trans HR.out), HB2.out⟩
    · have hne : ((n : Int) != (m : Int)) = true := by simp; omega
      go_enter Try.func15, Try.ntmps15
      go_wp2_with (first | (go_at_call 26; refine (samecols_is (HC.out.on HB.out) (HC'.out.on HB.out) hcd).mono ?_; rintro e w1 ⟨rfl, hb1⟩; have HB1 := hid (below_on HB.out hb1); have HK0 := hid (block_on K0.out hb1); have HK1 := hid (block_on K1.out hb1); have k0 := block_cell HK0.out; have k1 := block_cell HK1.out; clear hb1))
      go_ret
      refine ⟨ret_bool ((decide_eq_false ?_).symm.trans HR.out), HB1.out⟩
      intro e
      subst e
      apply hl
      rw [← HN.out, ← HN'.out, HH.out.1, HH'.out.1]
end Go.Proofs.Ytjekpclbedbaoaa.TN
namespace Go.Proofs
open Go.Shelf
def Try.lays144_ren : Go.Shelf.Ren := ⟨fun | 144 => 78 | 143 => 101 | 219 => 117 | 217 => 132 | 225 => 133 | 224 => 134 | 267 => 135 | 266 => 141 | 314 => 142 | n => n, fun | 9 => 9 | 4 => 4 | 3 => 3 | 5 => 5 | 46 => 140 | 146 => 164 | 51 => 154 | n => n, fun | 1 => 0 | n => n⟩
theorem Try.lays144 : Go.Proofs.Lays.n144 Try.prog Try.lays144_ren := {
  mixed := by kernel_rfl
  f143 := Try.func101.trans (congrArg some (by kernel_rfl))
  f144 := Try.func78.trans (congrArg some (by kernel_rfl))
  f217 := Try.func132.trans (congrArg some (by kernel_rfl))
  f219 := Try.func117.trans (congrArg some (by kernel_rfl))
  f224 := Try.func134.trans (congrArg some (by kernel_rfl))
  f225 := Try.func133.trans (congrArg some (by kernel_rfl))
  f266 := Try.func141.trans (congrArg some (by kernel_rfl))
  f267 := Try.func135.trans (congrArg some (by kernel_rfl))
  f314 := Try.func142.trans (congrArg some (by kernel_rfl))
  t3 := Try.underlying3
  a3 := Try.isAgg3
  z3 := Try.sizeOf3
  v3 := Try.zeroValue3
  t4 := Try.underlying4
  a4 := Try.isAgg4
  z4 := Try.sizeOf4
  v4 := Try.zeroValue4
  t5 := Try.underlying5
  a5 := Try.isAgg5
  z5 := Try.sizeOf5
  v5 := Try.zeroValue5
  t9 := Try.underlying9
  a9 := Try.isAgg9
  z9 := Try.sizeOf9
  v9 := Try.zeroValue9
  t46 := Try.underlying140
  a46 := Try.isAgg140
  z46 := Try.sizeOf140
  v46 := Try.zeroValue140
  t51 := Try.underlying154
  a51 := Try.isAgg154
  z51 := Try.sizeOf154
  v51 := Try.zeroValue154
  t146 := Try.underlying164
  a146 := Try.isAgg164
  z146 := Try.sizeOf164
  v146 := Try.zeroValue164
  g1 := by kernel_rfl }
open Go.RowKit Go.Lib in
theorem Try.strings_Contains_one (s : ByteArray) (c : UInt8) (w : World) :
    Calls Try.prog 78 #[.string s, .string ⟨#[c]⟩] w fun e w' => e = .returned (.bool (decide (0 ≤ Lib.indexByte s.data.toList c))) ∧ w' = w := Any.strings_Contains_one Try.lays144 s c w
open Go.RowKit Go.Lib in
theorem Try.strings_Contains (s sub : ByteArray) (m : Int) (w : World) (hs : s.size < 4294967281) (hm : w.cell? ⟨0, 0, none⟩ = some (.int .i64 m)) :
    Calls Try.prog 78 #[.string s, .string sub] w fun e w' => e = .returned (.bool (Lib.contains s.data.toList sub.data.toList)) ∧ w' = w := Any.strings_Contains Try.lays144 s sub m w hs hm
end Go.Proofs
