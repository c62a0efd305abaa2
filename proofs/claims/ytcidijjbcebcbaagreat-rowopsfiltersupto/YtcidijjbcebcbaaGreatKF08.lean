/-
  Rows that are filled one by one; stores beside them.
  What table.Same returns, for every two tables.
  What the reference's Row, SameCols and Same return, for all rows, columns and tables.
  What the reference's Same returns, for every two tables.
  The contracts of Go's library that package pred calls, laid at this program's numbers.
  What a condition among nodes is, row by row; how its tests lie in memory.
-/
import Derived.Test.YtcidijjbcebcbaaGreatProg
import Derived.Test.YtcidijjbcebcbaaGreatKF04
import Derived.Test.YtcidijjbcebcbaaGreatKF05
import Derived.Test.YtcidijjbcebcbaaGreatKF06
import Derived.Test.YtcidijjbcebcbaaGreatKF07
import Derived.Laws.MakeOwn
import Derived.Deep.RegionHeld
import Derived.Deep.Heap
import Derived.Shelf.Strings.Search3
namespace Go.Proofs.YtcidijjbcebcbaaGreat.TN
open Go.RowKit Go.Sort Go.Shelf

def nilS : Value := .slice none 0 0
theorem made_one (z : Value) (n : Nat) : madeCells #[z] n = (List.replicate n z).toArray := by
  unfold madeCells
  apply Array.ext
  · simp
  · intro i h1 h2; simp [Nat.mod_one]
theorem make_rows (n : Nat) (hn : n * 24 ≤ 140737488355328) (W : World) : (Instr.makeSlice 23 (.int .i64 (n : Int)) (.int .i64 (n : Int))).run Tryz.prog W = .ok (.slice (some ⟨W.heap.size, 0, none⟩) n n) (W.alloc (.cells (List.replicate n nilS).toArray 45)) := by
  obtain ⟨i, hi, h0, h1, h2⟩ := info_parts info35
  have h := run_make W 23 45 i _ Tryz.underlying23 hi h0 .i64 .i64 (n : Int) (n : Int) (by omega) (Int.le_refl _) (by rw [h2]; omega) (by omega)
  rw [h, h1, Int.toNat_natCast, Nat.mul_one]
  show Result.ok _ (W.alloc (.cells (madeCells #[.slice none 0 0] n) 45)) = _
  rw [made_one]; rfl
/- The rows made so far, behind them what make leaves. -/
def part (hs : List Value) (n : Nat) : Array Value := (hs ++ List.replicate (n - hs.length) nilS).toArray
theorem part_set {hs : List Value} {n : Nat} (h : hs.length < n) (v : Value) : (part hs n).setIfInBounds hs.length v = part (hs ++ [v]) n := by
  obtain ⟨m, hm⟩ : ∃ m, n - hs.length = m + 1 := ⟨n - hs.length - 1, by omega⟩
  unfold part
  rw [hm, show n - (hs ++ [v]).length = m from by simp; omega, List.replicate_succ]
  apply Array.ext'
  simp
theorem part_all {hs : List Value} {n : Nat} (h : hs.length = n) : part hs n = hs.toArray := by
  unfold part; rw [h, Nat.sub_self]; simp
theorem heads_snoc {Q : Nat → Prop} {w : World} {hs : List Value} {ds : List Rw} {h : Value} {r : Rw} (hh : HeadsIn Q w hs ds) (hr : RowIn Q w h r) : HeadsIn Q w (hs ++ [h]) (ds ++ [r]) := by
  refine ⟨by simp [hh.1], fun j x y hx hy => ?_⟩
  by_cases hj : j < hs.length
  · rw [List.getElem?_append_left hj] at hx
    rw [List.getElem?_append_left (by rw [← hh.1]; exact hj)] at hy
    exact hh.2 j x y hx hy
  · rw [List.getElem?_append_right (by omega)] at hx
    rw [List.getElem?_append_right (by rw [← hh.1]; omega), ← hh.1] at hy
    cases hd : j - hs.length with
    | zero => rw [hd] at hx hy; simp at hx hy; subst hx hy; exact hr
    | succ m => rw [hd] at hx; simp at hx
/- A store into block R leaves slices in other blocks. -/
theorem SlAt.set {α : Type} {Q : Nat → Prop} {enc : α → List Value} {k : Nat} {w : World} {v : Value} {xs : List α} {R i : Nat} {u : Value} (hq : ∀ b, Q b → b ≠ R) (h : SlAt Q enc k w v xs) : SlAt Q enc k (w.setCell ⟨R, i, none⟩ u) v xs := by
  obtain ⟨p, cap, hv, hc, hm, hx⟩ := h
  exact ⟨p, cap, hv, hc, hm, fun hne => let ⟨b, o, hp, hQ, hj⟩ := hx hne; ⟨b, o, hp, hQ, fun j x hjx i' u' hu => (World.cell?_setCell_far _ _ _ _ (fun e => hq b hQ.1 e.symm)).trans (hj j x hjx i' u' hu)⟩⟩
theorem HeadsIn.set {Q : Nat → Prop} {w : World} {hs : List Value} {rs : List Rw} {R i : Nat} {u : Value} (hq : ∀ b, Q b → b ≠ R) (h : HeadsIn Q w hs rs) : HeadsIn Q (w.setCell ⟨R, i, none⟩ u) hs rs := ⟨h.1, fun j x r h1 h2 => SlAt.set hq (h.2 j x r h1 h2)⟩
theorem TabIn.set {Q : Nat → Prop} {w : World} {v : Value} {cs : List Cl} {rs : List Rw} {R i : Nat} {u : Value} (hq : ∀ b, Q b → b ≠ R) (h : TabIn Q w v cs rs) : TabIn Q (w.setCell ⟨R, i, none⟩ u) v cs rs := let ⟨c, r, h0, h1, hs, h2, h3⟩ := h; ⟨c, r, h0, h1.set hq, hs, h2.set hq, h3.set hq⟩
theorem SlAt.lt {α : Type} {Q : Nat → Prop} {enc : α → List Value} {k : Nat} {w : World} {v : Value} {xs : List α} (hk : ∀ x, (enc x).length = k) (hp : 0 < k) (h : SlAt Q enc k w v xs) : SlAt (fun b => Q b ∧ b < w.heap.size) enc k w v xs := by
  obtain ⟨p, cap, hv, hc, hm, hx⟩ := h
  refine ⟨p, cap, hv, hc, hm, fun hne => ?_⟩
  obtain ⟨b, o, hpp, hQ, hj⟩ := hx hne
  refine ⟨b, o, hpp, ⟨⟨hQ.1, ?_⟩, hQ.2⟩, hj⟩
  cases xs with
  | nil => exact absurd rfl hne
  | cons y ys =>
    have h0 := hj 0 y rfl
    have hy : (enc y)[0]? = some ((enc y)[0]'(by rw [hk]; exact hp)) := List.getElem?_eq_getElem _
    exact block_lt_of_cell (h0 0 _ hy)
theorem frozen_no {w : World} {b : Nat} {xs : Array Value} {t : TypeId} (h : w.heap[b]? = some (.cells xs t (0, 0))) (o : Nat) : w.frozen? ⟨b, o, none⟩ = false := by simp [World.frozen?, h]
theorem part_nil {hs : List Value} {n : Nat} (h : hs.length < n) : (part hs n)[hs.length]? = some nilS := by
  unfold part
  rw [List.getElem?_toArray, List.getElem?_append_right (Nat.le_refl _), Nat.sub_self, List.getElem?_replicate, if_pos (by omega)]
theorem take_map_snoc {rs : List Rw} {f : Rw → Rw} {k : Nat} (h : k < rs.length) : (rs.take (k + 1)).map f = (rs.take k).map f ++ [f rs[k]!] := by
  have e : rs[k]! = rs[k] := by rw [List.getElem!_eq_getElem?_getD, List.getElem?_eq_getElem h]; rfl
  rw [List.take_succ_eq_append_getElem h, List.map_append, e]; rfl
theorem below_set {B : Nat} {w w' : World} {R i : Nat} {u : Value} (h : Below B w w') (hR : B ≤ R) : Below B w (w'.setCell ⟨R, i, none⟩ u) := by
  refine ⟨h.os, h.tape, h.output, ?_, fun k hk => ?_⟩
  · exact Nat.le_trans h.size (by rw [World.size_setCell]; exact Nat.le_refl _)
  · rw [Deep.blk_setCell_other _ _ _ _ (by show k ≠ R; omega)]; exact h.block k hk
end Go.Proofs.YtcidijjbcebcbaaGreat.TN
namespace Go.Proofs.YtcidijjbcebcbaaGreat.TN
open Go.RowKit Go.Sort Go.Shelf

theorem neqV : NeqAt Tryz.prog 52 (fun x : Vl => .agg x.cells.toArray) eqL := by
  refine ⟨fun x y w => ?_, GuardAt.agg _ (by kernel_rfl)⟩
  have he := eql24 x.k x.n x.s x.h0 x.h1 x.h2 x.h3 x.h4 x.h5 x.h6 x.h7 y.k y.n y.s y.h0 y.h1 y.h2 y.h3 y.h4 y.h5 y.h6 y.h7 w
  show Sem.run Tryz.prog (binOp .neq 52 x.val y.val) w = _
  rw [show eqL x y = eqV x.k x.n x.s x.h0 x.h1 x.h2 x.h3 x.h4 x.h5 x.h6 x.h7 y.k y.n y.s y.h0 y.h1 y.h2 y.h3 y.h4 y.h5 y.h6 y.h7 from rfl]
  generalize eqV x.k x.n x.s x.h0 x.h1 x.h2 x.h3 x.h4 x.h5 x.h6 x.h7 y.k y.n y.s y.h0 y.h1 y.h2 y.h3 y.h4 y.h5 y.h6 y.h7 = r at he ⊢
  have he' : Sem.run Tryz.prog (Op.equalIn Op.maxDepth 52 x.val y.val) w = .ok r w := he
  simp [binOp, Op.equal, he']
theorem neqC : NeqAt Tryz.prog 48 (fun x : Cl => .agg x.cells.toArray) eqC := by
  refine ⟨fun x y w => ?_, GuardAt.agg _ (by kernel_rfl)⟩
  have u3 := Tryz.underlying3
  have a3 := Tryz.isAgg3
  have z3 := Tryz.sizeOf3
  have u9 := Tryz.underlying9
  have a9 := Tryz.isAgg9
  have z9 := Tryz.sizeOf9
  have hS : Tryz.prog.underlying 48 = some (.struct (Tryz.prog.fieldsOf 48)) := by kernel_rfl
  have hb := bytes_beq x.nm y.nm
  have he : (Op.equalIn 10000 48 (.agg #[.string x.nm, .int .i64 x.kd]) (.agg #[.string y.nm, .int .i64 y.kd])).run Tryz.prog w = .ok (eqC x y) w := by
    rw [show (10000 : Nat) = 9999 + 1 from rfl, run_equalIn_agg w 9999 48 _ _ hS Tryz.stoodInHeld48]
    simp only [Program.fieldsOf, Tryz.underlying48]
    go_simp
    unfold eqC
    by_cases h1 : x.nm = y.nm <;> by_cases h2 : x.kd = y.kd <;> simp [h1, h2]
  show Sem.run Tryz.prog (binOp .neq 48 (.agg #[.string x.nm, .int .i64 x.kd]) (.agg #[.string y.nm, .int .i64 y.kd])) w = _
  generalize eqC x y = r at he ⊢
  have he' : Sem.run Tryz.prog (Op.equalIn Op.maxDepth 48 (.agg #[.string x.nm, .int .i64 x.kd]) (.agg #[.string y.nm, .int .i64 y.kd])) w = .ok r w := he
  simp [binOp, Op.equal, he']
theorem allEq_iff {α : Type} [Inhabited α] [DecidableEq α] {eq : α → α → Bool} (heq : ∀ x y, eq x y = true ↔ x = y) : ∀ (xs ys : List α), Lib.allEq eq xs ys = decide (xs = ys)
  | [], [] => by simp [Lib.allEq]
  | [], _ :: _ => by simp [Lib.allEq]
  | _ :: _, [] => by simp [Lib.allEq]
  | x :: xs, y :: ys => by
    have := allEq_iff heq xs ys
    by_cases h : eq x y = true
    · have hxy := (heq x y).1 h
      subst hxy
      simp [Lib.allEq, h, this]
    · have hxy : ¬ x = y := fun e => h ((heq x y).2 e)
      simp [Lib.allEq, h, hxy]
theorem rows_ne {rs qs : List Rw} {k : Nat} (h : ¬ rs[k]! = qs[k]!) : ¬ rs = qs := fun e => h (by rw [e])
theorem rows_eq {rs qs : List Rw} (h1 : rs.length = qs.length) (h : ∀ k, k < rs.length → rs[k]! = qs[k]!) : rs = qs := by
  apply List.ext_getElem h1
  intro i hi hi'
  have := h i hi
  rw [List.getElem!_eq_getElem?_getD, List.getElem!_eq_getElem?_getD, List.getElem?_eq_getElem hi, List.getElem?_eq_getElem hi'] at this
  exact this
end Go.Proofs.YtcidijjbcebcbaaGreat.TN
namespace Go.Proofs.YtcidijjbcebcbaaGreat.TN
open Go.RowKit Go.Sort Go.Shelf

theorem regrown_cell {w : World} {a : Addr} {v : Value} (h : w.cell? a = some v) (d : Nat) (os : Array Obj) : (grow (redrawn w d) os).cell? a = some v :=
  ((below_regrown w d os).cell (block_lt_of_cell h)).trans h
theorem rcompare_is {x y : Vl} {c : Int} {w : World} (h : cmpL x y = c) : Calls Tryz.prog 36 #[x.val, y.val] w fun e w' => e = .returned (.int .i64 c) ∧ Below w.heap.size w w' := by rw [← h]; exact rcompare_any x.small y.small
set_option maxHeartbeats 1000000 in
theorem rrow_any {u v : Value} {r q : Rw} {w : World} (hu : RowAt w u r) (hv : RowAt w v q) :
    Calls Tryz.prog 19 #[u, v] w fun e w' => e = .returned (.int .i64 (cmpR r q)) ∧ Below w.heap.size w w' := by
  obtain ⟨p, cap, rfl, hcap, hmax, hx⟩ := hu
  obtain ⟨p', cap', rfl, hcap', hmax', hx'⟩ := hv
  unfold maxLen at hmax hmax'
  generalize hr : cmpR r q = res
  have HR := hid hr
  have HX := hid hx
  have HX' := hid hx'
  clear hr hx hx'
  generalize hn : r.length = n at *
  generalize hn' : q.length = m at *
  have HN := hid hn
  have HN' := hid hn'
  clear hn hn'
  go_enter Tryz.func19, Tryz.ntmps19
  go_wp2
  go_loopw [5] (fun i wr => ∃ k : Nat, k ≤ n ∧ k ≤ m ∧ i = .int .i64 k ∧ Hid (Below w.heap.size w wr) ∧ Hid (cmpR (r.drop k) (q.drop k) = res)) (fun i _ => n - (intOf i).toNat)
  case atStart => exact ⟨0, by omega, by omega, rfl, Below.refl _ _, HR.out⟩
  case round =>
    obtain ⟨k, hk, hk', rfl, HG, HD⟩ := hrel
    by_cases hlt : k < n
    · have hkr : k < r.length := by rw [HN.out]; exact hlt
      by_cases hlt' : k < m
      · have hkq : k < q.length := by rw [HN'.out]; exact hlt'
        obtain ⟨b, o, rfl, -, hj⟩ := HX.out (by intro e; subst e; simp at hkr)
        obtain ⟨b', o', rfl, -, hj'⟩ := HX'.out (by intro e; subst e; simp at hkq)
        obtain ⟨c0, c1, c2, c3, c4, c5, c6, c7, c8, c9, c10⟩ := val_cells ((hj k _ (get!_some hkr)).on HG.out)
        obtain ⟨d0, d1, d2, d3, d4, d5, d6, d7, d8, d9, d10⟩ := val_cells ((hj' k _ (get!_some hkq)).on HG.out)
        have HS := hid (cmpR_step hkr hkq)
        generalize r[k]! = x at c0 c1 c2 c3 c4 c5 c6 c7 c8 c9 c10 HS
        generalize q[k]! = y at d0 d1 d2 d3 d4 d5 d6 d7 d8 d9 d10 HS
        clear hj hj'
        replace c0 := regrown_cell c0
        replace c1 := regrown_cell c1
        replace c2 := regrown_cell c2
        replace c3 := regrown_cell c3
        replace c4 := regrown_cell c4
        replace c5 := regrown_cell c5
        replace c6 := regrown_cell c6
        replace c7 := regrown_cell c7
        replace c8 := regrown_cell c8
        replace c9 := regrown_cell c9
        replace c10 := regrown_cell c10
        replace d0 := regrown_cell d0
        replace d1 := regrown_cell d1
        replace d2 := regrown_cell d2
        replace d3 := regrown_cell d3
        replace d4 := regrown_cell d4
        replace d5 := regrown_cell d5
        replace d6 := regrown_cell d6
        replace d7 := regrown_cell d7
        replace d8 := regrown_cell d8
        replace d9 := regrown_cell d9
        replace d10 := regrown_cell d10
        by_cases hz : cmpL x y = 0
        · have HZ := hid hz
          clear hz
          go_wp2_with fail
          refine wp_region_quiet_below (by kernel_rfl) (by kernel_rfl) ?_
          repeat (go_big_quiet_step (first | (go_at_call 36; exact Calls.regrown_of (rcompare_is HZ.out))))
          refine wpQuiet_nil ?_
          intro _ hw'
          obtain ⟨⟨dq, osq⟩, hw''⟩ := hw'
          subst hw''
          go_wp2
          go_roundw
          case rel =>
            refine ⟨k + 1, by omega, by omega, by go_num, below_on HG.out (below_regrown wr dq osq), ?_⟩
            have := HS.out
            rw [HD.out, thn_zero (by simp [HZ.out])] at this
            exact this.symm
          case measure => simp [intOf]; omega
        · generalize hcv : cmpL x y = cv at *
          have hcz : (cv != 0) = true := by simpa using hz
          have HZ := hid hz
          have HCV := hid hcv
          clear hz hcv
          go_wp2_with fail
          refine wp_region_quiet_below (by kernel_rfl) (by kernel_rfl) ?_
          repeat (go_big_quiet_step (first | (go_at_call 36; exact Calls.regrown_of (rcompare_is HCV.out))))
          refine wpQuiet_nil ?_
          intro _ hw'
          obtain ⟨⟨dq, osq⟩, hw''⟩ := hw'
          subst hw''
          go_wp2
          go_ret
          refine ⟨ret_int ?_, below_on HG.out (below_regrown wr dq osq)⟩
          have := HS.out
          rw [HD.out, thn_ne hcz] at this
          exact this.symm
      · have hnl : decide ((k : Int) < (m : Int)) = false := by simp; omega
        have hkm : k = m := by omega
        subst hkm
        have hnm : ¬ (n : Int) < (k : Int) := by omega
        go_wp2
        go_ret
        exact ⟨ret_int ((cmpR_longer hkr (by rw [HN'.out]; omega)).symm.trans HD.out), HG.out⟩
    · have hks : k = n := by omega
      subst hks
      by_cases hlt' : k < m
      · go_wp2
        go_ret
        exact ⟨ret_int ((cmpR_shorter (by rw [HN.out]; omega) (by rw [HN'.out]; omega)).symm.trans HD.out), HG.out⟩
      · have hkm : k = m := by omega
        subst hkm
        go_wp2
        go_ret
        exact ⟨ret_int ((cmpR_ends (by rw [HN.out]; omega) (by rw [HN'.out]; omega)).symm.trans HD.out), HG.out⟩
theorem cols_ne {cs ds : List Cl} {k : Nat} (h : ¬ cs[k]! = ds[k]!) : ¬ cs = ds := fun e => h (by rw [e])
theorem cols_eq {cs ds : List Cl} (h1 : cs.length = ds.length) (h : ∀ k, k < cs.length → cs[k]! = ds[k]!) : cs = ds := by
  apply List.ext_getElem h1
  intro i hi hi'
  have := h i hi
  rw [List.getElem!_eq_getElem?_getD, List.getElem!_eq_getElem?_getD, List.getElem?_eq_getElem hi, List.getElem?_eq_getElem hi'] at this
  exact this
set_option maxHeartbeats 1000000 in
theorem samecols_any {u v : Value} {cs ds : List Cl} {w : World} (hu : ColsAt w u cs) (hv : ColsAt w v ds) :
    Calls Tryz.prog 18 #[u, v] w fun e w' => e = .returned (.bool (decide (cs = ds))) ∧ Below w.heap.size w w' := by
  obtain ⟨p, cap, rfl, hcap, hmax, hx⟩ := hu
  obtain ⟨p', cap', rfl, hcap', hmax', hx'⟩ := hv
  unfold maxLen at hmax hmax'
  generalize hr : decide (cs = ds) = res
  have HR := hid hr
  have HX := hid hx
  have HX' := hid hx'
  clear hr hx hx'
  generalize hn : cs.length = n at *
  generalize hn' : ds.length = m at *
  have HN := hid hn
  have HN' := hid hn'
  clear hn hn'
  by_cases hl : n = m
  · subst hl
    go_enter Tryz.func18, Tryz.ntmps18
    go_wp2
    go_loopw [5] (fun i wr => ∃ k : Nat, k ≤ n ∧ i = .int .i64 k ∧ Hid (Below w.heap.size w wr) ∧ Hid (∀ j, j < k → cs[j]! = ds[j]!)) (fun i _ => n - (intOf i).toNat)
    case atStart => exact ⟨0, by omega, rfl, Below.refl _ _, fun j h => absurd h (Nat.not_lt_zero _)⟩
    case round =>
      obtain ⟨k, hk, rfl, HB, HA⟩ := hrel
      by_cases hlt : k < n
      · have hkc : k < cs.length := by rw [HN.out]; exact hlt
        have hkd : k < ds.length := by rw [HN'.out]; exact hlt
        obtain ⟨b, o, rfl, -, hj⟩ := HX.out (by intro e; subst e; simp at hkc)
        obtain ⟨b', o', rfl, -, hj'⟩ := HX'.out (by intro e; subst e; simp at hkd)
        obtain ⟨c0, c1⟩ := col_cells ((hj k _ (get!_some hkc)).on HB.out)
        obtain ⟨d0, d1⟩ := col_cells ((hj' k _ (get!_some hkd)).on HB.out)
        have HNE := hid (cols_ne (cs := cs) (ds := ds) (k := k))
        have HSTEP : Hid (cs[k]! = ds[k]! → ∀ j, j < k + 1 → cs[j]! = ds[j]!) := fun e j hj => by
          by_cases h : j = k
          · subst h; exact e
          · exact HA.out j (by omega)
        generalize cs[k]! = x at c0 c1 HNE HSTEP
        generalize ds[k]! = y at d0 d1 HNE HSTEP
        clear hj hj'
        have hq : ∀ w : World, Sem.run Tryz.prog (binOp .neq 48 (.agg #[.string x.nm, .int .i64 x.kd]) (.agg #[.string y.nm, .int .i64 y.kd])) w = .ok (.bool (!eqC x y)) w := fun w => neqC.1 x y w
        cases hb : eqC x y with
        | true =>
          have HE := hid ((eqC_iff x y).1 hb)
          simp only [hb] at hq
          clear hb
          go_wp2_with fail
          go_quiet (fail)
          go_wp2
          go_roundw
          case rel => exact ⟨k + 1, by omega, by go_num, below_drewN HB.out _, HSTEP.out HE.out⟩
          case measure => simp [intOf]; omega
        | false =>
          have HE := hid (show ¬ x = y from fun e => by rw [(eqC_iff x y).2 e] at hb; cases hb)
          simp only [hb] at hq
          clear hb
          go_wp2_with fail
          go_quiet (fail)
          go_wp2
          go_ret
          exact ⟨ret_bool ((decide_eq_false (HNE.out HE.out)).symm.trans HR.out), below_drewN HB.out _⟩
      · have hks : k = n := by omega
        subst hks
        go_wp2
        go_ret
        exact ⟨ret_bool ((decide_eq_true (cols_eq (by rw [HN.out, HN'.out]) (by rw [HN.out]; exact HA.out))).symm.trans HR.out), HB.out⟩
  · have hne : ((n : Int) != (m : Int)) = true := by simp; omega
    go_enter Tryz.func18, Tryz.ntmps18
    go_wp2
    go_ret
    refine ⟨ret_bool ((decide_eq_false ?_).symm.trans HR.out), Below.refl _ _⟩
    intro e
    subst e
    exact hl (HN.out.symm.trans HN'.out)
end Go.Proofs.YtcidijjbcebcbaaGreat.TN
namespace Go.Proofs.YtcidijjbcebcbaaGreat.TN
open Go.RowKit Go.Sort Go.Shelf

theorem samecols_is {u v : Value} {r q : List Cl} {w : World} {c : Bool} (hu : ColsAt w u r) (hv : ColsAt w v q) (h : decide (r = q) = c) :
    Calls Tryz.prog 18 #[u, v] w fun e w' => e = .returned (.bool c) ∧ Below w.heap.size w w' := by rw [← h]; exact samecols_any hu hv
theorem rrow_is {u v : Value} {r q : Rw} {w : World} {c : Int} (hu : RowAt w u r) (hv : RowAt w v q) (h : cmpR r q = c) :
    Calls Tryz.prog 19 #[u, v] w fun e w' => e = .returned (.int .i64 c) ∧ Below w.heap.size w w' := by rw [← h]; exact rrow_any hu hv
set_option maxHeartbeats 1000000 in
theorem rsame_any {u v : Value} {cs ds : List Cl} {rs qs : List Rw} {w : World} (hu : TabAt w u cs rs) (hv : TabAt w v ds qs) :
    Calls Tryz.prog 8 #[u, v] w fun e w' => e = .returned (.bool (decide (cs = ds ∧ rs = qs))) ∧ Below w.heap.size w w' := by
  obtain ⟨c, r, rfl, hc, hs, ⟨p, cap, rfl, hcap, hmax, hx⟩, hh⟩ := hu
  obtain ⟨c', r', rfl, hc', hs', ⟨p', cap', rfl, hcap', hmax', hx'⟩, hh'⟩ := hv
  unfold maxLen at hmax hmax'
  generalize hn : hs.length = n at *
  generalize hn' : hs'.length = m at *
  have HN := hid hn
  have HN' := hid hn'
  clear hn hn'
  have HC := hid hc
  have HC' := hid hc'
  have HX := hid hx
  have HX' := hid hx'
  have HH := hid hh
  have HH' := hid hh'
  clear hc hc' hx hx' hh hh'
  have HB : Hid (Below w.heap.size w ((w.alloc (.cells #[c, .slice p n cap] 25)).alloc (.cells #[c', .slice p' m cap'] 25))) := ((Below.refl w.heap.size w).alloc (Nat.le_refl _) _).alloc (by simp) _
  have K0 := hid (block_on (alloc_block w (.cells #[c, .slice p n cap] 25)) ((Below.refl _ _).alloc (Nat.le_refl _) (.cells #[c', .slice p' m cap'] 25)))
  have K1 : Hid (((w.alloc (.cells #[c, .slice p n cap] 25)).alloc (.cells #[c', .slice p' m cap'] 25)).heap[w.heap.size + 1]? = some (.cells #[c', .slice p' m cap'] 25 (0, 0))) := by
    have h := alloc_block (w.alloc (.cells #[c, .slice p n cap] 25)) (.cells #[c', .slice p' m cap'] 25)
    rw [World.size_alloc] at h
    exact h
  cases hcd : decide (cs = ds) with
  | false =>
    have he : decide (cs = ds ∧ rs = qs) = false := decide_eq_false fun h => of_decide_eq_false hcd h.1
    rw [he]
    go_enter Tryz.func8, Tryz.ntmps8
    go_wp2_with (first | (go_at_call 18; refine (samecols_is (HC.out.on HB.out) (HC'.out.on HB.out) hcd).mono ?_; rintro e w1 ⟨rfl, hb1⟩))
    go_ret
    exact ⟨rfl, below_on HB.out hb1⟩
  | true =>
    have he : decide (cs = ds ∧ rs = qs) = decide (rs = qs) := by
      have := of_decide_eq_true hcd
      by_cases h : rs = qs <;> simp [this, h]
    rw [he]
    clear he
    generalize hr : decide (rs = qs) = res
    have HR := hid hr
    clear hr
    by_cases hl : n = m
    · subst hl
      go_enter Tryz.func8, Tryz.ntmps8
      go_wp2_with (first | (go_at_call 18; refine (samecols_is (HC.out.on HB.out) (HC'.out.on HB.out) hcd).mono ?_; rintro e w1 ⟨rfl, hb1⟩; have HB1 := hid (below_on HB.out hb1); have HK0 := hid (block_on K0.out hb1); have HK1 := hid (block_on K1.out hb1); have k0 := block_cell HK0.out; have k1 := block_cell HK1.out; clear hb1))
      go_loopw [5] (fun i wr => ∃ k : Nat, k ≤ n ∧ i = .int .i64 k ∧ Hid (Below w.heap.size w wr) ∧ Hid (wr.heap[w.heap.size]? = some (.cells #[c, .slice p n cap] 25 (0, 0))) ∧ Hid (wr.heap[w.heap.size + 1]? = some (.cells #[c', .slice p' n cap'] 25 (0, 0))) ∧ Hid (∀ j, j < k → rs[j]! = qs[j]!)) (fun i _ => n - (intOf i).toNat)
      case atStart => exact ⟨0, by omega, rfl, HB1.out, HK0.out, HK1.out, fun j h => absurd h (Nat.not_lt_zero _)⟩
      case round =>
        clear k0 k1 HK0 HK1
        obtain ⟨k, hk, rfl, HB2, HK0, HK1, HA⟩ := hrel
        by_cases hlt : k < n
        · have hkh : k < hs.length := by rw [HN.out]; exact hlt
          have hkr : k < rs.length := by rw [← HH.out.1]; exact hkh
          have hkh' : k < hs'.length := by rw [HN'.out]; exact hlt
          have hkr' : k < qs.length := by rw [← HH'.out.1]; exact hkh'
          obtain ⟨b, o, rfl, -, hj⟩ := HX.out (by intro e; subst e; simp at hkh)
          obtain ⟨b', o', rfl, -, hj'⟩ := HX'.out (by intro e; subst e; simp at hkh')
          have hd := head_cell (fun j x hjx => (hj j x hjx).on HB2.out) (get!_some hkh)
          have hd' := head_cell (fun j x hjx => (hj' j x hjx).on HB2.out) (get!_some hkh')
          have HRow := hid ((HH.out.2 k _ _ (get!_some hkh) (get!_some hkr)).on HB2.out)
          have HRow' := hid ((HH'.out.2 k _ _ (get!_some hkh') (get!_some hkr')).on HB2.out)
          generalize hs[k]! = hd0 at hd HRow
          generalize hs'[k]! = hd0' at hd' HRow'
          clear hj hj'
          have HNE := hid (rows_ne (rs := rs) (qs := qs) (k := k))
          have HSTEP : Hid (rs[k]! = qs[k]! → ∀ j, j < k + 1 → rs[j]! = qs[j]!) := fun e j hj => by
            by_cases h : j = k
            · subst h; exact e
            · exact HA.out j (by omega)
          generalize rs[k]! = r0 at HRow HNE HSTEP
          generalize qs[k]! = q0 at HRow' HNE HSTEP
          have k0 := block_cell HK0.out
          have k1 := block_cell HK1.out
          have kk0 : ∀ d os j, (grow (redrawn wr d) os).cell? ⟨w.heap.size, j, none⟩ = (#[c, .slice (some ⟨b, o, none⟩) n cap] : Array Value)[j]? := fun d os j => block_cell (block_on HK0.out (below_regrown wr d os)) j
          have kk1 : ∀ d os j, (grow (redrawn wr d) os).cell? ⟨w.heap.size + 1, j, none⟩ = (#[c', .slice (some ⟨b', o', none⟩) n cap'] : Array Value)[j]? := fun d os j => block_cell (block_on HK1.out (below_regrown wr d os)) j
          have hd2 := regrown_cell hd
          have hd2' := regrown_cell hd'
          have HRw : ∀ d os, Hid (RowAt (grow (redrawn wr d) os) hd0 r0) := fun d os => HRow.out.on (below_regrown wr d os)
          have HRw' : ∀ d os, Hid (RowAt (grow (redrawn wr d) os) hd0' q0) := fun d os => HRow'.out.on (below_regrown wr d os)
          clear hd hd'
          by_cases hz : cmpR r0 q0 = 0
          · have HZ := hid hz
            clear hz
            go_wp2_with fail
            refine wp_region_quiet_below (by kernel_rfl) (by kernel_rfl) ?_
            repeat (go_big_quiet_step (first | (go_at_call 19; exact Calls.regrown_of (rrow_is (HRw _ _).out (HRw' _ _).out HZ.out))))
            refine wpQuiet_nil ?_
            intro _ hw'
            obtain ⟨⟨dq, osq⟩, hw''⟩ := hw'
            subst hw''
            go_wp2
            go_roundw
            case rel => exact ⟨k + 1, by omega, by go_num, below_on HB2.out (below_regrown wr dq osq), block_on HK0.out (below_regrown wr dq osq), block_on HK1.out (below_regrown wr dq osq), HSTEP.out ((cmpR_zero _ _).1 HZ.out)⟩
            case measure => simp [intOf]; omega
          · generalize hcv : cmpR r0 q0 = cv at *
            have hcz : (cv != 0) = true := by simpa using hz
            have HZ := hid (show ¬ r0 = q0 from fun e => hz (hcv.symm.trans ((cmpR_zero _ _).2 e)))
            have HCV := hid hcv
            clear hz hcv
            go_wp2_with fail
            refine wp_region_quiet_below (by kernel_rfl) (by kernel_rfl) ?_
            repeat (go_big_quiet_step (first | (go_at_call 19; exact Calls.regrown_of (rrow_is (HRw _ _).out (HRw' _ _).out HCV.out))))
            refine wpQuiet_nil ?_
            intro _ hw'
            obtain ⟨⟨dq, osq⟩, hw''⟩ := hw'
            subst hw''
            go_wp2
            go_ret
            exact ⟨ret_bool ((decide_eq_false (HNE.out HZ.out)).symm.trans HR.out), below_on HB2.out (below_regrown wr dq osq)⟩
        · have hks : k = n := by omega
          subst hks
          have k0 := block_cell HK0.out
          go_wp2
          go_ret
          exact ⟨ret_bool ((decide_eq_true (rows_eq (by rw [← HH.out.1, ← HH'.out.1, HN.out, HN'.out]) (by rw [← HH.out.1, HN.out]; exact HA.out))).symm.trans HR.out), HB2.out⟩
    · have hne : ((n : Int) != (m : Int)) = true := by simp; omega
      go_enter Tryz.func8, Tryz.ntmps8
      go_wp2_with (first | (go_at_call 18; refine (samecols_is (HC.out.on HB.out) (HC'.out.on HB.out) hcd).mono ?_; rintro e w1 ⟨rfl, hb1⟩; have HB1 := hid (below_on HB.out hb1); have HK0 := hid (block_on K0.out hb1); have HK1 := hid (block_on K1.out hb1); have k0 := block_cell HK0.out; have k1 := block_cell HK1.out; clear hb1))
      go_ret
      refine ⟨ret_bool ((decide_eq_false ?_).symm.trans HR.out), HB1.out⟩
      intro e
      subst e
      apply hl
      rw [← HN.out, ← HN'.out, HH.out.1, HH'.out.1]
end Go.Proofs.YtcidijjbcebcbaaGreat.TN
namespace Go.Proofs
open Go.Shelf
def Tryz.lays144_ren : Go.Shelf.Ren := ⟨fun | 144 => 69 | 143 => 87 | 219 => 99 | 217 => 105 | 225 => 106 | 224 => 107 | 267 => 108 | 266 => 110 | 314 => 111 | n => n, fun | 9 => 9 | 4 => 4 | 3 => 3 | 5 => 5 | 46 => 90 | 146 => 121 | 51 => 107 | n => n, fun | 1 => 0 | n => n⟩
theorem Tryz.lays144 : Go.Proofs.Lays.n144 Tryz.prog Tryz.lays144_ren := {
  mixed := by kernel_rfl
  f143 := Tryz.func87.trans (congrArg some (by kernel_rfl))
  f144 := Tryz.func69.trans (congrArg some (by kernel_rfl))
  f217 := Tryz.func105.trans (congrArg some (by kernel_rfl))
  f219 := Tryz.func99.trans (congrArg some (by kernel_rfl))
  f224 := Tryz.func107.trans (congrArg some (by kernel_rfl))
  f225 := Tryz.func106.trans (congrArg some (by kernel_rfl))
  f266 := Tryz.func110.trans (congrArg some (by kernel_rfl))
  f267 := Tryz.func108.trans (congrArg some (by kernel_rfl))
  f314 := Tryz.func111.trans (congrArg some (by kernel_rfl))
  t3 := Tryz.underlying3
  a3 := Tryz.isAgg3
  z3 := Tryz.sizeOf3
  v3 := Tryz.zeroValue3
  t4 := Tryz.underlying4
  a4 := Tryz.isAgg4
  z4 := Tryz.sizeOf4
  v4 := Tryz.zeroValue4
  t5 := Tryz.underlying5
  a5 := Tryz.isAgg5
  z5 := Tryz.sizeOf5
  v5 := Tryz.zeroValue5
  t9 := Tryz.underlying9
  a9 := Tryz.isAgg9
  z9 := Tryz.sizeOf9
  v9 := Tryz.zeroValue9
  t46 := Tryz.underlying90
  a46 := Tryz.isAgg90
  z46 := Tryz.sizeOf90
  v46 := Tryz.zeroValue90
  t51 := Tryz.underlying107
  a51 := Tryz.isAgg107
  z51 := Tryz.sizeOf107
  v51 := Tryz.zeroValue107
  t146 := Tryz.underlying121
  a146 := Tryz.isAgg121
  z146 := Tryz.sizeOf121
  v146 := Tryz.zeroValue121
  g1 := by kernel_rfl }
open Go.RowKit Go.Lib in
theorem Tryz.strings_Contains_one (s : ByteArray) (c : UInt8) (w : World) :
    Calls Tryz.prog 69 #[.string s, .string ⟨#[c]⟩] w fun e w' => e = .returned (.bool (decide (0 ≤ Lib.indexByte s.data.toList c))) ∧ w' = w := Any.strings_Contains_one Tryz.lays144 s c w
open Go.RowKit Go.Lib in
theorem Tryz.strings_Contains (s sub : ByteArray) (m : Int) (w : World) (hs : s.size < 4294967281) (hm : w.cell? ⟨0, 0, none⟩ = some (.int .i64 m)) :
    Calls Tryz.prog 69 #[.string s, .string sub] w fun e w' => e = .returned (.bool (Lib.contains s.data.toList sub.data.toList)) ∧ w' = w := Any.strings_Contains Tryz.lays144 s sub m w hs hm
end Go.Proofs
namespace Go.Proofs.YtcidijjbcebcbaaGreat.PD
open Go.RowKit Go.Joins

def how1 (k : Int) : Nat := if k = 13 then 1 else if k = 11 ∨ k = 12 then 2 else 0
def ahead (l : List Int) (i : Nat) : Bool := l.all fun e => decide (0 ≤ e) && decide (e < (i : Int))
def bel (q : Nx) (i : Nat) : List Int := if q.np.l.length = how1 q.np.kind ∧ ahead q.np.l i = true then q.np.l else []
theorem ahead_mem {l : List Int} {i : Nat} (h : ahead l i = true) {e : Int} (he : e ∈ l) : 0 ≤ e ∧ e < (i : Int) := by
  have := List.all_eq_true.1 h e he
  simpa using this
theorem bel_mem {q : Nx} {i : Nat} {e : Int} (he : e ∈ bel q i) : 0 ≤ e ∧ e < (i : Int) := by
  unfold bel at he
  split at he
  · rename_i h; exact ahead_mem h.2 he
  · cases he
def valAt (cs : List TN.Cl) (row : TN.Rw) (s : List UInt8) : Option TN.Vl := if 0 ≤ TN.findC cs (St s) then row[(TN.findC cs (St s)).toNat]? else none
def cmpQ (q : Nx) (v : TN.Vl) : Bool := TN.holdsB q.np.n v.k q.np.vk (TN.cmpV v.k v.n v.s v.h0 v.h1 v.h2 v.h3 v.h4 v.h5 v.h6 v.h7 q.np.vk q.np.vn (St q.np.vs) q.h0 q.h1 q.h2 q.h3 q.h4 q.h5 q.h6 q.h7)
def hasQ (q : Nx) (v : TN.Vl) : Bool := decide (v.k = 2) && Lib.contains v.s.data.toList q.np.vs
def hsAt (hs : List Bool) (a : Int) : Bool := hs.getD a.toNat false
def tst (cs : List TN.Cl) (q : Nx) (i : Nat) (hs : List Bool) (row : TN.Rw) : Bool :=
  if q.np.kind = 14 then (match valAt cs row q.np.s with | some v => cmpQ q v | none => false)
  else if q.np.kind = 15 then (match valAt cs row q.np.s with | some v => hasQ q v | none => false)
  else match bel q i with
    | [a] => if q.np.kind = 13 then !hsAt hs a else false
    | [a, b] => if q.np.kind = 11 then hsAt hs a && hsAt hs b else if q.np.kind = 12 then hsAt hs a || hsAt hs b else false
    | _ => false
theorem tst_congr {cs : List TN.Cl} {q : Nx} {i : Nat} {hs hs' : List Bool} {row : TN.Rw} (h : ∀ a ∈ bel q i, hsAt hs a = hsAt hs' a) : tst cs q i hs row = tst cs q i hs' row := by
  unfold tst
  split
  · rfl
  · split
    · rfl
    · split
      · rename_i a e; rw [h a (by rw [e]; simp)]
      · rename_i a b e; rw [h a (by rw [e]; simp), h b (by rw [e]; simp)]
      · rfl
def oksA (cs : List TN.Cl) (row : TN.Rw) : List Nx → List Bool → List Bool
  | [], acc => acc
  | q :: r, acc => oksA cs row r (acc ++ [tst cs q acc.length acc row])
def oks (cs : List TN.Cl) (row : TN.Rw) (qs : List Nx) : List Bool := oksA cs row qs []
theorem oksA_len (cs : List TN.Cl) (row : TN.Rw) : ∀ (qs : List Nx) (acc : List Bool), (oksA cs row qs acc).length = acc.length + qs.length
  | [], acc => rfl
  | q :: r, acc => by
    show (oksA cs row r _).length = _
    rw [oksA_len cs row r, List.length_append, List.length_cons, List.length_cons, List.length_nil]; omega
theorem oks_len (cs : List TN.Cl) (row : TN.Rw) (qs : List Nx) : (oks cs row qs).length = qs.length := by
  unfold oks; rw [oksA_len]; simp
theorem oksA_pre (cs : List TN.Cl) (row : TN.Rw) : ∀ (qs : List Nx) (acc : List Bool) (j : Nat), j < acc.length → (oksA cs row qs acc)[j]? = acc[j]?
  | [], acc, j, _ => rfl
  | q :: r, acc, j, h => by
    show (oksA cs row r _)[j]? = _
    rw [oksA_pre cs row r _ j (by simp; omega), List.getElem?_append_left h]
theorem oksA_get (cs : List TN.Cl) (row : TN.Rw) : ∀ (qs : List Nx) (acc : List Bool) (j : Nat) (q : Nx), qs[j]? = some q → (oksA cs row qs acc)[acc.length + j]? = some (tst cs q (acc.length + j) (oksA cs row qs acc) row)
  | [], acc, j, q, h => by simp at h
  | x :: r, acc, 0, q, h => by
    simp at h; subst h
    show (oksA cs row r _)[acc.length]? = some (tst cs x acc.length (oksA cs row r _) row)
    rw [oksA_pre cs row r _ acc.length (by simp), List.getElem?_append_right (Nat.le_refl _), Nat.sub_self]
    show some _ = some _
    congr 1
    refine tst_congr (fun a ha => ?_)
    have := bel_mem ha
    unfold hsAt
    rw [List.getD_eq_getElem?_getD, List.getD_eq_getElem?_getD, oksA_pre cs row r _ a.toNat (by simp; omega), List.getElem?_append_left (by omega)]
  | x :: r, acc, j + 1, q, h => by
    have := oksA_get cs row r (acc ++ [tst cs x acc.length acc row]) j q (by simpa using h)
    rw [List.length_append, show acc.length + [tst cs x acc.length acc row].length + j = acc.length + (j + 1) by simp; omega] at this
    exact this
theorem oks_get {cs : List TN.Cl} {row : TN.Rw} {qs : List Nx} {j : Nat} {q : Nx} (h : qs[j]? = some q) : (oks cs row qs)[j]? = some (tst cs q j (oks cs row qs) row) := by
  have := oksA_get cs row qs [] j q h
  rw [List.length_nil, Nat.zero_add] at this
  exact this
def holdsX (cs : List TN.Cl) (qs : List Nx) (i : Int) (row : TN.Rw) : Bool := decide (0 ≤ i) && hsAt (oks cs row qs) i
theorem holdsX_out {cs : List TN.Cl} {qs : List Nx} {i : Int} {row : TN.Rw} (h : i < 0 ∨ (qs.length : Int) ≤ i) : holdsX cs qs i row = false := by
  unfold holdsX hsAt
  rcases h with h | h
  · rw [decide_eq_false (by omega)]; rfl
  · rw [List.getD_eq_getElem?_getD, List.getElem?_eq_none (by rw [oks_len]; omega)]; simp
/- The tests' values held, cell by cell. -/
def Hd (w : World) (hd : Nat) (hs : List Bool) : Prop := w.heap[hd]? = some (.cells (hs.map Value.bool).toArray 4 (0, 0))
theorem Hd.cell {w : World} {hd : Nat} {hs : List Bool} (h : Hd w hd hs) {a : Nat} (ha : a < hs.length) : w.cell? ⟨hd, a, none⟩ = some (.bool (hsAt hs a)) := by
  rw [block_cell h a, ← Array.getElem?_toList]
  simp only [List.getElem?_map, List.getElem?_eq_getElem ha, Option.map_some, hsAt, List.getD_eq_getElem?_getD, Int.toNat_natCast, Option.getD_some]
theorem Hd.on {w w' : World} {hd : Nat} {hs : List Bool} (h : Hd w hd hs) (hb : Below w.heap.size w w') : Hd w' hd hs := block_on h hb
theorem Hd.set {w : World} {hd : Nat} {hs : List Bool} (h : Hd w hd hs) (a : Nat) (b : Bool) : Hd (w.setCell ⟨hd, a, none⟩ (.bool b)) hd (hs.set a b) := by
  have := block_set h a (.bool b)
  unfold Hd
  rw [this]
  congr 2
  rw [List.map_set, ← List.setIfInBounds_toArray]
abbrev slB (hd n : Nat) : Value := .slice (some ⟨hd, 0, none⟩) n n
/- Blocks that may turn: those of the tests' values, of the steps and of their variable. -/
def TyOk (w : World) (T : Nat → Prop) (hd : Nat) : Prop := ∀ k, T k → hd ≤ k ∧ ∀ c t fz, w.heap[k]? = some (.cells c t fz) → t = 4 ∨ t = 73 ∨ t = 80 ∨ t = 58
theorem blk_kp {w w' : World} {T : Nat → Prop} {hd b t : Nat} {c : Array Value} {fz : Nat × Nat} (hk : Kp T w w') (hT : TyOk w T hd) (h : w.heap[b]? = some (.cells c t fz)) (ht : t ≠ 4 ∧ t ≠ 73 ∧ t ≠ 80 ∧ t ≠ 58) : w'.heap[b]? = some (.cells c t fz) :=
  hk.blk h (fun hb => by
    rcases (hT b hb).2 _ _ _ h with e | e | e | e
    · exact ht.1 e
    · exact ht.2.1 e
    · exact ht.2.2.1 e
    · exact ht.2.2.2 e)
def TyS (w : World) (T : Nat → Prop) (hd : Nat) : Prop := ∀ k, T k → hd ≤ k ∧ ∀ c t fz, w.heap[k]? = some (.cells c t fz) → t = 4 ∨ t = 73 ∨ t = 80
theorem TyS.ok {w : World} {T : Nat → Prop} {hd : Nat} (h : TyS w T hd) : TyOk w T hd := fun k hk => ⟨(h k hk).1, fun c t fz hc => ((h k hk).2 c t fz hc).imp id (fun e => e.imp id .inl)⟩
theorem TyS.blk {w w' : World} {T : Nat → Prop} {hd b t : Nat} {c : Array Value} {fz : Nat × Nat} (hT : TyS w T hd) (hk : Kp T w w') (h : w.heap[b]? = some (.cells c t fz)) (ht : t ≠ 4 ∧ t ≠ 73 ∧ t ≠ 80) : w'.heap[b]? = some (.cells c t fz) :=
  hk.blk h (fun hb => by
    rcases (hT b hb).2 _ _ _ h with e | e | e
    · exact ht.1 e
    · exact ht.2.1 e
    · exact ht.2.2 e)
theorem TyS.no (w : World) (hd : Nat) : TyS w (fun _ => False) hd := fun _ h => h.elim
theorem TyS.hd {w : World} {hd : Nat} {hs : List Bool} (h : Hd w hd hs) : TyS w (fun k => k = hd) hd := fun k e => ⟨by omega, fun c t fz hc => by subst e; rw [h] at hc; cases hc; exact .inl rfl⟩
/- A node's test, as it lies in memory: what it tells of a row. -/
inductive Tst (hd n : Nat) (cs : List TN.Cl) (q : Nx) (i : Nat) (w : World) : Value → Prop
  | never (h : ∀ hs row, tst cs q i hs row = false) : Tst hd n cs q i w (.func (.func 46) #[] #[])
  | cmp (cb fb nb : Nat) (hk : q.np.kind = 14) (h2 : w.heap[cb]? = some (.cells #[.int .i64 (TN.findC cs (St q.np.s))] 3 (0, 0))) (h3 : w.heap[fb]? = some (.cells #[.func (.func 66) #[] #[dp nb]] 62 (0, 0))) (h4 : w.heap[nb]? = some (.cells q.cells.toArray 79 (0, 0))) : Tst hd n cs q i w (.func (.func 86) #[] #[dp cb, dp fb])
  | has (cb fb nb : Nat) (hk : q.np.kind = 15) (h2 : w.heap[cb]? = some (.cells #[.int .i64 (TN.findC cs (St q.np.s))] 3 (0, 0))) (h3 : w.heap[fb]? = some (.cells #[.func (.func 68) #[] #[dp nb]] 62 (0, 0))) (h4 : w.heap[nb]? = some (.cells q.cells.toArray 79 (0, 0))) : Tst hd n cs q i w (.func (.func 86) #[] #[dp cb, dp fb])
  | not (hb lb a : Nat) (hk : q.np.kind = 13) (h1 : a < n) (h2 : w.heap[hb]? = some (.cells #[slB hd n] 72 (0, 0))) (h3 : w.heap[lb]? = some (.cells #[q.lv] 54 (0, 0))) (h4 : SlAt (fun b => b < hd) int1 1 w q.lv [(a : Int)]) (h5 : bel q i = [(a : Int)]) : Tst hd n cs q i w (.func (.func 70) #[] #[dp hb, dp lb])
  | and (hb lb a b : Nat) (hk : q.np.kind = 11) (h1 : a < n ∧ b < n) (h2 : w.heap[hb]? = some (.cells #[slB hd n] 72 (0, 0))) (h3 : w.heap[lb]? = some (.cells #[q.lv] 54 (0, 0))) (h4 : SlAt (fun b => b < hd) int1 1 w q.lv [(a : Int), (b : Int)]) (h5 : bel q i = [(a : Int), (b : Int)]) : Tst hd n cs q i w (.func (.func 71) #[] #[dp hb, dp lb])
  | or (hb lb a b : Nat) (hk : q.np.kind = 12) (h1 : a < n ∧ b < n) (h2 : w.heap[hb]? = some (.cells #[slB hd n] 72 (0, 0))) (h3 : w.heap[lb]? = some (.cells #[q.lv] 54 (0, 0))) (h4 : SlAt (fun b => b < hd) int1 1 w q.lv [(a : Int), (b : Int)]) (h5 : bel q i = [(a : Int), (b : Int)]) : Tst hd n cs q i w (.func (.func 72) #[] #[dp hb, dp lb])
theorem Tst.kp {hd n : Nat} {cs : List TN.Cl} {q : Nx} {i : Nat} {w w' : World} {tv : Value} {T : Nat → Prop} (h : Tst hd n cs q i w tv) (hk : Kp T w w') (hT : TyOk w T hd) : Tst hd n cs q i w' tv := by
  have hl : ∀ b, b < hd → ¬ T b := fun b hb hb' => by have := (hT b hb').1; omega
  cases h with
  | never h => exact .never h
  | cmp cb fb nb hq h2 h3 h4 => exact .cmp cb fb nb hq (blk_kp hk hT h2 (by decide)) (blk_kp hk hT h3 (by decide)) (blk_kp hk hT h4 (by decide))
  | has cb fb nb hq h2 h3 h4 => exact .has cb fb nb hq (blk_kp hk hT h2 (by decide)) (blk_kp hk hT h3 (by decide)) (blk_kp hk hT h4 (by decide))
  | not hb lb a hq h1 h2 h3 h4 h5 => exact .not hb lb a hq h1 (blk_kp hk hT h2 (by decide)) (blk_kp hk hT h3 (by decide)) (h4.kp hk hl) h5
  | and hb lb a b hq h1 h2 h3 h4 h5 => exact .and hb lb a b hq h1 (blk_kp hk hT h2 (by decide)) (blk_kp hk hT h3 (by decide)) (h4.kp hk hl) h5
  | or hb lb a b hq h1 h2 h3 h4 h5 => exact .or hb lb a b hq h1 (blk_kp hk hT h2 (by decide)) (blk_kp hk hT h3 (by decide)) (h4.kp hk hl) h5
end Go.Proofs.YtcidijjbcebcbaaGreat.PD
