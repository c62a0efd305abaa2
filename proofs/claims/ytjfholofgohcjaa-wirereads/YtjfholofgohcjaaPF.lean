/-
  What table.Same returns, for every two tables.
  What the reference's Valid and Compare return, for every input: what the program's do.
  What the reference's Row, SameCols and Same return, for all rows, columns and tables.
  What the reference's Same returns, for every two tables.
  What the reference's Cols and Check return, for all columns and tables.
  What the reference's Check returns, for every table.
-/
import Derived.Test.YtjfholofgohcjaaPA
import Derived.Test.YtjfholofgohcjaaPD
import Derived.Deep.Light
namespace Go.Proofs.Ytjfholofgohcjaa
open Go.RowKit Go.Sort Go.Shelf

theorem neqV : NeqAt Try.prog 44 (fun x : Vl => .agg x.cells.toArray) eqL := by
  refine ⟨fun x y w => ?_, GuardAt.agg _ (by kernel_rfl)⟩
  have he := eql24 x.k x.n x.s x.h0 x.h1 x.h2 x.h3 x.h4 x.h5 x.h6 x.h7 y.k y.n y.s y.h0 y.h1 y.h2 y.h3 y.h4 y.h5 y.h6 y.h7 w
  show Sem.run Try.prog (binOp .neq 44 x.val y.val) w = _
  rw [show eqL x y = eqV x.k x.n x.s x.h0 x.h1 x.h2 x.h3 x.h4 x.h5 x.h6 x.h7 y.k y.n y.s y.h0 y.h1 y.h2 y.h3 y.h4 y.h5 y.h6 y.h7 from rfl]
  generalize eqV x.k x.n x.s x.h0 x.h1 x.h2 x.h3 x.h4 x.h5 x.h6 x.h7 y.k y.n y.s y.h0 y.h1 y.h2 y.h3 y.h4 y.h5 y.h6 y.h7 = r at he ⊢
  have he' : Sem.run Try.prog (Op.equalIn Op.maxDepth 44 x.val y.val) w = .ok r w := he
  simp [binOp, Op.equal, he']
theorem neqC : NeqAt Try.prog 32 (fun x : Cl => .agg x.cells.toArray) eqC := by
  refine ⟨fun x y w => ?_, GuardAt.agg _ (by kernel_rfl)⟩
  have u3 := Try.underlying3
  have a3 := Try.isAgg3
  have z3 := Try.sizeOf3
  have u9 := Try.underlying9
  have a9 := Try.isAgg9
  have z9 := Try.sizeOf9
  have hS : Try.prog.underlying 32 = some (.struct (Try.prog.fieldsOf 32)) := by kernel_rfl
  have hb := bytes_beq x.nm y.nm
  have he : (Op.equalIn 10000 32 (.agg #[.string x.nm, .int .i64 x.kd]) (.agg #[.string y.nm, .int .i64 y.kd])).run Try.prog w = .ok (eqC x y) w := by
    rw [show (10000 : Nat) = 9999 + 1 from rfl, run_equalIn_agg w 9999 32 _ _ hS Try.stoodInHeld32]
    simp only [Program.fieldsOf, Try.underlying32]
    go_simp
    unfold eqC
    by_cases h1 : x.nm = y.nm <;> by_cases h2 : x.kd = y.kd <;> simp [h1, h2]
  show Sem.run Try.prog (binOp .neq 32 (.agg #[.string x.nm, .int .i64 x.kd]) (.agg #[.string y.nm, .int .i64 y.kd])) w = _
  generalize eqC x y = r at he ⊢
  have he' : Sem.run Try.prog (Op.equalIn Op.maxDepth 32 (.agg #[.string x.nm, .int .i64 x.kd]) (.agg #[.string y.nm, .int .i64 y.kd])) w = .ok r w := he
  simp [binOp, Op.equal, he']
theorem allEq_iff {α : Type} [Inhabited α] [DecidableEq α] {eq : α → α → Bool} (heq : ∀ x y, eq x y = true ↔ x = y) : ∀ (xs ys : List α), Lib.allEq eq xs ys = decide (xs = ys)
  | [], [] => by simp [Lib.allEq]
  | [], _ :: _ => by simp [Lib.allEq]
  | _ :: _, [] => by simp [Lib.allEq]
  | x :: xs, y :: ys => by
    have := allEq_iff heq xs ys
    by_cases h : eq x y = true
    · have hxy := (heq x y).1 h
      subst hxy
      simp [Lib.allEq, h, this]
    · have hxy : ¬ x = y := fun e => h ((heq x y).2 e)
      simp [Lib.allEq, h, hxy]
set_option maxHeartbeats 400000 in
theorem equalV_any {u v : Value} {r q : Rw} {w : World} (hu : RowAt w u r) (hv : RowAt w v q) :
    Calls Try.prog 90 #[u, v] w fun e w' => e = .returned (.bool (decide (r = q))) ∧ Grew w w' := by
  obtain ⟨p, cap, rfl, hcap, hmax, hx⟩ := hu
  obtain ⟨p', cap', rfl, hcap', hmax', hx'⟩ := hv
  unfold maxLen at hmax hmax'
  by_cases hl : r.length = q.length
  · by_cases hn : r = []
    · subst hn
      have hq : q = [] := List.eq_nil_of_length_eq_zero hl.symm
      subst hq
      go_enter Try.func90, Try.ntmps90
      go_wp2
      refine wp_loop_rounds 1 ?_
      rw [rounds_succ]
      go_wp2
      go_ret
      exact ⟨rfl, Grew.refl _⟩
    · have hn' : q ≠ [] := by intro e; subst e; exact hn (List.eq_nil_of_length_eq_zero hl)
      obtain ⟨b, o, rfl, -, hj⟩ := hx hn
      obtain ⟨b', o', rfl, -, hj'⟩ := hx' hn'
      have h := AnyQ.slices_Equal Try.equalV 11 Try.isAgg44 Try.sizeOf44 Vl.cells vl_len eqL neqV b o r.length cap b' o' q.length cap' r q w (Nat.le_refl _) (Nat.le_refl _) hmax hmax' (fun j h i u hu => hj j _ (get!_some h) i u hu) (fun j h i u hu => hj' j _ (get!_some h) i u hu)
      rw [List.take_length, List.take_length, allEq_iff eqL_iff] at h
      refine Calls.mono (show Calls Try.prog 90 _ _ _ from h) ?_
      rintro e w' ⟨he, n, rfl⟩
      exact ⟨he, (Grew.refl _).drewN n⟩
  · have hne : ((r.length : Int) != (q.length : Int)) = true := by simp; omega
    have hd : decide (r = q) = false := by simp only [decide_eq_false_iff_not]; intro e; subst e; exact hl rfl
    rw [hd]
    clear hx hx' hd
    generalize List.length r = n at *
    generalize List.length q = m at *
    go_enter Try.func90, Try.ntmps90
    go_wp2
    go_ret
    exact ⟨rfl, Grew.refl _⟩
set_option maxHeartbeats 400000 in
theorem equalC_any {u v : Value} {r q : List Cl} {w : World} (hu : ColsAt w u r) (hv : ColsAt w v q) :
    Calls Try.prog 58 #[u, v] w fun e w' => e = .returned (.bool (decide (r = q))) ∧ Below w.heap.size w w' := by
  obtain ⟨p, cap, rfl, hcap, hmax, hx⟩ := hu
  obtain ⟨p', cap', rfl, hcap', hmax', hx'⟩ := hv
  unfold maxLen at hmax hmax'
  by_cases hl : r.length = q.length
  · by_cases hn : r = []
    · subst hn
      have hq : q = [] := List.eq_nil_of_length_eq_zero hl.symm
      subst hq
      go_enter Try.func58, Try.ntmps58
      go_wp2
      refine wp_loop_rounds 1 ?_
      rw [rounds_succ]
      go_wp2
      go_ret
      exact ⟨rfl, Below.refl _ _⟩
    · have hn' : q ≠ [] := by intro e; subst e; exact hn (List.eq_nil_of_length_eq_zero hl)
      obtain ⟨b, o, rfl, -, hj⟩ := hx hn
      obtain ⟨b', o', rfl, -, hj'⟩ := hx' hn'
      have h := AnyQ.slices_Equal Try.equalC 2 Try.isAgg32 Try.sizeOf32 Cl.cells cl_len eqC neqC b o r.length cap b' o' q.length cap' r q w (Nat.le_refl _) (Nat.le_refl _) hmax hmax' (fun j h i u hu => hj j _ (get!_some h) i u hu) (fun j h i u hu => hj' j _ (get!_some h) i u hu)
      rw [List.take_length, List.take_length, allEq_iff eqC_iff] at h
      refine Calls.mono (show Calls Try.prog 58 _ _ _ from h) ?_
      rintro e w' ⟨he, n, rfl⟩
      exact ⟨he, ((Grew.refl _).drewN n).below⟩
  · have hne : ((r.length : Int) != (q.length : Int)) = true := by simp; omega
    have hd : decide (r = q) = false := by simp only [decide_eq_false_iff_not]; intro e; subst e; exact hl rfl
    rw [hd]
    clear hx hx' hd
    generalize List.length r = n at *
    generalize List.length q = m at *
    go_enter Try.func58, Try.ntmps58
    go_wp2
    go_ret
    exact ⟨rfl, Below.refl _ _⟩
theorem rows_ne {rs qs : List Rw} {k : Nat} (h : ¬ rs[k]! = qs[k]!) : ¬ rs = qs := fun e => h (by rw [e])
theorem rows_eq {rs qs : List Rw} (h1 : rs.length = qs.length) (h : ∀ k, k < rs.length → rs[k]! = qs[k]!) : rs = qs := by
  apply List.ext_getElem h1
  intro i hi hi'
  have := h i hi
  rw [List.getElem!_eq_getElem?_getD, List.getElem!_eq_getElem?_getD, List.getElem?_eq_getElem hi, List.getElem?_eq_getElem hi'] at this
  exact this
theorem equalV_is {u v : Value} {r q : Rw} {w : World} {c : Bool} (hu : RowAt w u r) (hv : RowAt w v q) (h : decide (r = q) = c) :
    Calls Try.prog 90 #[u, v] w fun e w' => e = .returned (.bool c) ∧ Grew w w' := by rw [← h]; exact equalV_any hu hv
set_option maxHeartbeats 1000000 in
theorem equalF_any {u v : Value} {rs qs : List Rw} {w : World} (hu : RowsAt w u rs) (hv : RowsAt w v qs) :
    Calls Try.prog 89 #[u, v, .func (.func 90) #[] #[]] w fun e w' => e = .returned (.bool (decide (rs = qs))) ∧ Below w.heap.size w w' := by
  obtain ⟨hs, ⟨p, cap, rfl, hcap, hmax, hx⟩, hh⟩ := hu
  obtain ⟨hs', ⟨p', cap', rfl, hcap', hmax', hx'⟩, hh'⟩ := hv
  unfold maxLen at hmax hmax'
  have eg : ∀ args w, (callFunc 90 args).run Try.prog w = .ok (.enter 90 args) w := enters_of Try.func90 (by kernel_rfl) rfl
  generalize hr : decide (rs = qs) = res
  have HR := hid hr
  have HX := hid hx
  have HX' := hid hx'
  have HH := hid hh
  have HH' := hid hh'
  clear hr hx hx' hh hh'
  generalize hn : hs.length = n at *
  generalize hn' : hs'.length = m at *
  have HN := hid hn
  have HN' := hid hn'
  clear hn hn'
  by_cases hl : n = m
  · subst hl
    go_enter Try.func89, Try.ntmps89
    go_wp2
    go_loopw [17] (fun i wr => ∃ k : Nat, k ≤ n ∧ i = .int .i64 k ∧ Hid (Below w.heap.size w wr) ∧ Hid (∀ j, j < k → rs[j]! = qs[j]!)) (fun i _ => n - (intOf i).toNat)
    case atStart => exact ⟨0, by omega, rfl, Below.refl _ _, fun j h => absurd h (Nat.not_lt_zero _)⟩
    case round =>
      obtain ⟨k, hk, rfl, HB, HA⟩ := hrel
      by_cases hlt : k < n
      · have hkh : k < hs.length := by rw [HN.out]; exact hlt
        have hkr : k < rs.length := by rw [← HH.out.1]; exact hkh
        have hkh' : k < hs'.length := by rw [HN'.out]; exact hlt
        have hkr' : k < qs.length := by rw [← HH'.out.1]; exact hkh'
        obtain ⟨b, o, rfl, -, hj⟩ := HX.out (by intro e; subst e; simp at hkh)
        obtain ⟨b', o', rfl, -, hj'⟩ := HX'.out (by intro e; subst e; simp at hkh')
        have hd := head_cell (fun j x hjx => (hj j x hjx).on HB.out) (get!_some hkh)
        have hd' := head_cell (fun j x hjx => (hj' j x hjx).on HB.out) (get!_some hkh')
        have HRow := hid ((HH.out.2 k _ _ (get!_some hkh) (get!_some hkr)).on HB.out)
        have HRow' := hid ((HH'.out.2 k _ _ (get!_some hkh') (get!_some hkr')).on HB.out)
        generalize hs[k]! = hd0 at hd HRow
        generalize hs'[k]! = hd0' at hd' HRow'
        clear hj hj'
        have HNE := hid (rows_ne (rs := rs) (qs := qs) (k := k))
        have HSTEP : Hid (rs[k]! = qs[k]! → ∀ j, j < k + 1 → rs[j]! = qs[j]!) := fun e j hj => by
          by_cases h : j = k
          · subst h; exact e
          · exact HA.out j (by omega)
        generalize rs[k]! = r0 at HRow HNE HSTEP
        generalize qs[k]! = q0 at HRow' HNE HSTEP
        cases hrb : decide (r0 = q0) with
        | true =>
          go_wp2_with (first | (go_at_fn 90; refine (equalV_is HRow.out HRow'.out hrb).mono ?_; rintro e w2 ⟨rfl, hb2⟩))
          go_roundw
          case rel => exact ⟨k + 1, by omega, by go_num, below_on HB.out hb2.below, HSTEP.out (of_decide_eq_true hrb)⟩
          case measure => simp [intOf]; omega
        | false =>
          go_wp2_with (first | (go_at_fn 90; refine (equalV_is HRow.out HRow'.out hrb).mono ?_; rintro e w2 ⟨rfl, hb2⟩))
          go_ret
          exact ⟨ret_bool ((decide_eq_false (HNE.out (of_decide_eq_false hrb))).symm.trans HR.out), below_on HB.out hb2.below⟩
      · have hks : k = n := by omega
        subst hks
        go_wp2
        go_ret
        exact ⟨ret_bool ((decide_eq_true (rows_eq (by rw [← HH.out.1, ← HH'.out.1, HN.out, HN'.out]) (by rw [← HH.out.1, HN.out]; exact HA.out))).symm.trans HR.out), HB.out⟩
  · have hne : ((n : Int) != (m : Int)) = true := by simp; omega
    go_enter Try.func89, Try.ntmps89
    go_wp2
    go_ret
    refine ⟨ret_bool ((decide_eq_false ?_).symm.trans HR.out), Below.refl _ _⟩
    intro e
    subst e
    apply hl
    rw [← HN.out, ← HN'.out, HH.out.1, HH'.out.1]
theorem equalC_is {u v : Value} {r q : List Cl} {w : World} {c : Bool} (hu : ColsAt w u r) (hv : ColsAt w v q) (h : decide (r = q) = c) :
    Calls Try.prog 58 #[u, v] w fun e w' => e = .returned (.bool c) ∧ Below w.heap.size w w' := by rw [← h]; exact equalC_any hu hv
set_option maxHeartbeats 1000000 in
theorem same_any {u v : Value} {cs ds : List Cl} {rs qs : List Rw} {w : World} (hu : TabAt w u cs rs) (hv : TabAt w v ds qs) :
    Calls Try.prog 45 #[u, v] w fun e w' => e = .returned (.bool (decide (cs = ds ∧ rs = qs))) ∧ Below w.heap.size w w' := by
  obtain ⟨c, r, rfl, hc, hr⟩ := hu
  obtain ⟨c', r', rfl, hc', hr'⟩ := hv
  have HC := hid hc
  have HR := hid hr
  have HC' := hid hc'
  have HR' := hid hr'
  clear hc hr hc' hr'
  have HB : Hid (Below w.heap.size w ((w.alloc (.cells #[c, r] 25)).alloc (.cells #[c', r'] 25))) := ((Below.refl w.heap.size w).alloc (Nat.le_refl _) _).alloc (by simp) _
  have K0 := hid (block_on (alloc_block w (.cells #[c, r] 25)) ((Below.refl _ _).alloc (Nat.le_refl _) (.cells #[c', r'] 25)))
  have K1 : Hid (((w.alloc (.cells #[c, r] 25)).alloc (.cells #[c', r'] 25)).heap[w.heap.size + 1]? = some (.cells #[c', r'] 25 (0, 0))) := by
    have h := alloc_block (w.alloc (.cells #[c, r] 25)) (.cells #[c', r'] 25)
    rw [World.size_alloc] at h
    exact h
  cases hcd : decide (cs = ds) with
  | false =>
    have he : decide (cs = ds ∧ rs = qs) = false := decide_eq_false fun h => of_decide_eq_false hcd h.1
    rw [he]
    go_enter Try.func45, Try.ntmps45
    go_wp2_with (first | (go_at_call 58; refine (equalC_is (HC.out.on HB.out) (HC'.out.on HB.out) hcd).mono ?_; rintro e w1 ⟨rfl, hb1⟩))
    go_ret
    exact ⟨rfl, below_on HB.out hb1⟩
  | true =>
    have he : decide (cs = ds ∧ rs = qs) = decide (rs = qs) := by
      have := of_decide_eq_true hcd
      by_cases h : rs = qs <;> simp [this, h]
    rw [he]
    have HQ := hid (fun W (h : Below w.heap.size w W) => equalF_any (HR.out.on h) (HR'.out.on h))
    generalize decide (rs = qs) = res at *
    go_enter Try.func45, Try.ntmps45
    go_wp2_with (first | (go_at_call 58; refine (equalC_is (HC.out.on HB.out) (HC'.out.on HB.out) hcd).mono ?_; rintro e w1 ⟨rfl, hb1⟩; have HB1 := hid (below_on HB.out hb1); have k0 := block_cell (block_on K0.out hb1); have k1 := block_cell (block_on K1.out hb1); clear hb1) | (go_at_call 89; refine (HQ.out _ HB1.out).mono ?_; rintro e w2 ⟨rfl, hb2⟩))
    go_ret
    exact ⟨rfl, below_on HB1.out hb2⟩
end Go.Proofs.Ytjfholofgohcjaa
namespace Go.Proofs.Ytjfholofgohcjaa
open Go.RowKit
theorem toList_nil (s : ByteArray) : s.toList = [] ↔ s = noText := by
  constructor
  · intro h; exact bytes_toList_inj (by rw [h, ByteArray.toList_eq]; rfl)
  · intro h; subst h; rw [ByteArray.toList_eq]; rfl
theorem toList_isEmpty (s : ByteArray) : s.toList.isEmpty = decide (s = noText) := by
  rw [Bool.eq_iff_iff]; simp [toList_nil]
theorem size_iff (s : ByteArray) : (s.size : Int) ≤ 64 ↔ s.size ≤ 64 := by omega
set_option maxHeartbeats 400000 in
theorem rvalid_any {k n : Int} {s : ByteArray} {a0 a1 a2 a3 a4 a5 a6 a7 : Int} {w : World} :
    Calls Try.prog 50 #[V k n s a0 a1 a2 a3 a4 a5 a6 a7] w fun e w' => e = .returned (.bool (validB k n s a0 a1 a2 a3 a4 a5 a6 a7)) ∧ Below w.heap.size w w' := by
  have he := @eql22
  generalize hr : validB k n s a0 a1 a2 a3 a4 a5 a6 a7 = r
  have HR := hid (show validB k n s a0 a1 a2 a3 a4 a5 a6 a7 = r from hr)
  clear hr
  by_cases h1 : k = 1
  · subst h1
    go_enter Try.func50, Try.ntmps50
    go_wp2
    all_goals
      go_ret
      refine ⟨ret_bool ?_, (Below.refl _ _).alloc (Nat.le_refl _) _⟩
      go_light
      rw [← HR.out]
      have ht := toList_nil s
      have hz := size_iff s
      simp_all [validB, zeroH]
  · by_cases h2 : k = 2
    · subst h2
      go_enter Try.func50, Try.ntmps50
      go_wp2
      all_goals
        go_ret
        refine ⟨ret_bool ?_, (Below.refl _ _).alloc (Nat.le_refl _) _⟩
        go_light
        rw [← HR.out]
        have ht := toList_nil s
        have hz := size_iff s
        simp_all [validB, zeroH]
    · by_cases h3 : k = 3
      · subst h3
        go_enter Try.func50, Try.ntmps50
        go_wp2
        all_goals
          go_ret
          refine ⟨ret_bool ?_, (Below.refl _ _).alloc (Nat.le_refl _) _⟩
          go_light
          rw [← HR.out]
          have ht := toList_nil s
          have hz := size_iff s
          simp_all [validB, zeroH]
      · by_cases h4 : k = 4
        · subst h4
          go_enter Try.func50, Try.ntmps50
          go_wp2
          all_goals
            go_ret
            refine ⟨ret_bool ?_, (Below.refl _ _).alloc (Nat.le_refl _) _⟩
            go_light
            rw [← HR.out]
            have ht := toList_nil s
            have hz := size_iff s
            have hi := toList_isEmpty s
            simp_all [validB]
        · have g1 : (k == 1) = false := by simpa using h1
          have g2 : (k == 2) = false := by simpa using h2
          have g3 : (k == 3) = false := by simpa using h3
          have g4 : (k == 4) = false := by simpa using h4
          have HR2 := hid (show validB k n s a0 a1 a2 a3 a4 a5 a6 a7 = false by simp [validB, h1, h2, h3, h4])
          clear h1 h2 h3 h4
          go_enter Try.func50, Try.ntmps50
          go_wp2
          go_ret
          exact ⟨ret_bool (by rw [← HR.out, HR2.out]), (Below.refl _ _).alloc (Nat.le_refl _) _⟩
theorem alloc_block2 (w : World) (x y : Obj) : ((w.alloc x).alloc y).heap[w.heap.size + 1]? = some y := by
  have h := alloc_block (w.alloc x) y
  rwa [World.size_alloc] at h
theorem wrap64_u8 (c : UInt8) : wrap64 (c.toNat : Int) = (c.toNat : Int) := by
  have := c.toNat_lt
  go_arith
set_option maxHeartbeats 400000 in
theorem order_any {a b : Int} {w : World} :
    Calls Try.prog 130 #[.int .i64 a, .int .i64 b] w fun e w' => e = .returned (.int .i64 (cmpI a b)) ∧ w' = w := by
  go_enter Try.func130, Try.ntmps130
  go_wp2
  all_goals
    go_ret
    refine ⟨ret_int ?_, rfl⟩
    unfold cmpI
    split <;> (try split) <;> omega
theorem nth8_cell {W : World} {b : Nat} {k n : Int} {s : ByteArray} {a0 a1 a2 a3 a4 a5 a6 a7 : Int} (h : W.heap[b]? = some (.cells #[.int .i64 k, .int .i64 n, .string s, .int .i64 a0, .int .i64 a1, .int .i64 a2, .int .i64 a3, .int .i64 a4, .int .i64 a5, .int .i64 a6, .int .i64 a7] 44 (0, 0))) (i : Nat) (hi : i < 8) : W.cell? ⟨b, 3 + i, none⟩ = some (.int .i64 (nth8 a0 a1 a2 a3 a4 a5 a6 a7 i)) := by
  rw [block_cell h]
  rcases lt8 hi with rfl | rfl | rfl | rfl | rfl | rfl | rfl | rfl <;> rfl
theorem cmpB_drop_eq {x y : ByteArray} {i : Nat} (hx : i < x.size) (hy : i < y.size) (h : x[i] = y[i]) : cmpB (x.data.toList.drop i) (y.data.toList.drop i) = cmpB (x.data.toList.drop (i + 1)) (y.data.toList.drop (i + 1)) := by
  rw [List.drop_eq_getElem_cons (i := i) (by simpa using hx), List.drop_eq_getElem_cons (i := i) (l := y.data.toList) (by simpa using hy)]
  have h' : x.data.toList[i]'(by simpa using hx) = y.data.toList[i]'(by simpa using hy) := h
  simp [cmpB, h']
theorem cmpB_drop_ne {x y : ByteArray} {i : Nat} (hx : i < x.size) (hy : i < y.size) (h : ¬ x[i] = y[i]) : cmpB (x.data.toList.drop i) (y.data.toList.drop i) = cmpI (x[i].toNat : Int) (y[i].toNat : Int) := by
  rw [List.drop_eq_getElem_cons (i := i) (by simpa using hx), List.drop_eq_getElem_cons (i := i) (l := y.data.toList) (by simpa using hy)]
  have e1 : x.data.toList[i]'(by simpa using hx) = x[i] := rfl
  have e2 : y.data.toList[i]'(by simpa using hy) = y[i] := rfl
  rw [e1, e2]
  generalize x[i] = a at *
  generalize y[i] = b at *
  simp only [cmpB, cmpI, UInt8.lt_iff_toNat_lt]
  have hne : a.toNat ≠ b.toNat := fun e => h (UInt8.toNat_inj.1 e)
  repeat' split
  all_goals omega
theorem cmpB_end {x y : ByteArray} {i : Nat} (h1 : i ≤ x.size) (h2 : i ≤ y.size) (h : ¬ (i < x.size ∧ i < y.size)) : cmpB (x.data.toList.drop i) (y.data.toList.drop i) = cmpI (x.size : Int) (y.size : Int) := by
  have lx : x.data.toList.length = x.size := Array.length_toList
  have ly : y.data.toList.length = y.size := Array.length_toList
  have dx : (x.data.toList.drop i).length = x.size - i := by rw [List.length_drop, lx]
  have dy : (y.data.toList.drop i).length = y.size - i := by rw [List.length_drop, ly]
  generalize x.data.toList.drop i = p at *
  generalize y.data.toList.drop i = q at *
  unfold cmpI
  cases p with
  | nil =>
    cases q with
    | nil => simp at dx dy; rw [if_neg (by omega), if_neg (by omega)]; rfl
    | cons b q => simp at dx dy; rw [if_pos (by omega)]; rfl
  | cons a p =>
    cases q with
    | nil => simp at dx dy; rw [if_neg (by omega), if_pos (by omega)]; rfl
    | cons b q => simp at dx dy; omega
set_option maxHeartbeats 1000000 in
theorem rcompare_any {k n : Int} {s : ByteArray} {a0 a1 a2 a3 a4 a5 a6 a7 : Int} {k' n' : Int} {s' : ByteArray} {b0 b1 b2 b3 b4 b5 b6 b7 : Int} {w : World} (hs : s.size ≤ maxLen) (hs' : s'.size ≤ maxLen) :
    Calls Try.prog 101 #[V k n s a0 a1 a2 a3 a4 a5 a6 a7, V k' n' s' b0 b1 b2 b3 b4 b5 b6 b7] w fun e w' => e = .returned (.int .i64 (cmpV k n s a0 a1 a2 a3 a4 a5 a6 a7 k' n' s' b0 b1 b2 b3 b4 b5 b6 b7)) ∧ Below w.heap.size w w' := by
  unfold maxLen at hs hs'
  generalize hr : cmpV k n s a0 a1 a2 a3 a4 a5 a6 a7 k' n' s' b0 b1 b2 b3 b4 b5 b6 b7 = r
  unfold cmpV at hr
  by_cases h1 : k = k'
  · subst h1
    rw [thn_zero (by simp [cmpI_self])] at hr
    by_cases h2 : n = n'
    · subst h2
      rw [thn_zero (by simp [cmpI_self])] at hr
      have HR := hid hr
      clear hr
      go_enter Try.func101, Try.ntmps101
      go_wp2
      go_loopw [5] (fun i wr => ∃ j : Nat, j ≤ s.size ∧ j ≤ s'.size ∧ i = .int .i64 j ∧ Hid (cmpB (s.data.toList.drop j) (s'.data.toList.drop j) = cmpS s s') ∧ Hid (wr.heap[w.heap.size]? = some (.cells #[.int .i64 k, .int .i64 n, .string s, .int .i64 a0, .int .i64 a1, .int .i64 a2, .int .i64 a3, .int .i64 a4, .int .i64 a5, .int .i64 a6, .int .i64 a7] 44 (0, 0))) ∧ Hid (wr.heap[w.heap.size + 1]? = some (.cells #[.int .i64 k, .int .i64 n, .string s', .int .i64 b0, .int .i64 b1, .int .i64 b2, .int .i64 b3, .int .i64 b4, .int .i64 b5, .int .i64 b6, .int .i64 b7] 44 (0, 0))) ∧ Hid (Below w.heap.size w wr)) (fun i _ => s.size - (intOf i).toNat)
      case atStart =>
        refine ⟨0, by omega, by omega, rfl, ?_, ?_, ?_, ?_⟩
        · show cmpB _ _ = cmpB _ _
          rw [ByteArray.toList_eq, ByteArray.toList_eq]; rfl
        · exact block_on (alloc_block w _) ((Below.refl _ _).alloc (Nat.le_refl _) _)
        · exact hid (alloc_block2 _ _ _)
        · show Below _ _ _
          go_grown
      case round =>
        obtain ⟨j, hj1, hj2, rfl, HC, HA, HB, HBel⟩ := hrel
        have c0 := fun o => block_cell HA.out o
        have c1 := fun o => block_cell HB.out o
        by_cases hlt : j < s.size ∧ j < s'.size
        · obtain ⟨l1, l2⟩ := hlt
          by_cases he : s[j] = s'[j]
          · have hne : ((s[j].toNat : Int) != (s'[j].toNat : Int)) = false := by rw [he]; simp
            have HE := hid he
            clear he
            go_wp2_with fail
            go_quiet (fail)
            go_wp2
            go_roundw
            case rel => exact ⟨j + 1, by omega, by omega, by go_num, (cmpB_drop_eq l1 l2 HE.out).symm.trans HC.out, HA.out, HB.out, below_drewN HBel.out _⟩
            case measure => simp [intOf]; omega
          · have hne : ((s[j].toNat : Int) != (s'[j].toNat : Int)) = true := by
              simp only [bne_iff_ne, ne_eq]; intro e; apply he; apply UInt8.toNat_inj.1; omega
            have HE := hid he
            clear he
            go_wp2_with fail
            go_quiet (fail)
            have HA2 := hid (show (wr.drewN nq).heap[w.heap.size]? = _ from HA.out)
            have HB2 := hid (show (wr.drewN nq).heap[w.heap.size + 1]? = _ from HB.out)
            have HBel2 := hid (below_drewN HBel.out nq)
            clear c0 c1 HA HB HBel
            generalize wr.drewN nq = wr2 at *
            have c0 := fun o => block_cell HA2.out o
            have c1 := fun o => block_cell HB2.out o
            go_wp2_with fail
            go_quiet ((go_at_call 130; exact Calls.quiet_of_same order_any))
            go_wp2
            go_ret
            refine ⟨ret_int ?_, below_drewN HBel2.out _⟩
            have hfin : cmpI (s[j].toNat : Int) (s'[j].toNat : Int) = r := by
              rw [← HR.out, ← HC.out, cmpB_drop_ne l1 l2 HE.out]
              exact (thn_ne (cmpI_ne (fun e => HE.out (UInt8.toNat_inj.1 (by omega))))).symm
            rw [wrap64_u8, wrap64_u8]
            exact hfin
        · have HE := hid (cmpB_end hj1 hj2 hlt)
          by_cases hs2 : s.size = s'.size
          · have hz : ((s.size : Int) != (s'.size : Int)) = false := by rw [hs2]; simp
            have hj3 : ¬ j < s.size := by omega
            have HR2 := hid (show cmpFrom (nth8 a0 a1 a2 a3 a4 a5 a6 a7) (nth8 b0 b1 b2 b3 b4 b5 b6 b7) 8 0 = r by
              rw [← HR.out, ← HC.out, HE.out, hs2, cmpI_self]; exact (thn_zero (by simp)).symm)
            clear hlt HE HC HR hs2
            go_wp2
            go_loopw [6] (fun i wr => ∃ j : Nat, j ≤ 8 ∧ i = .int .i64 j ∧ Hid (cmpFrom (nth8 a0 a1 a2 a3 a4 a5 a6 a7) (nth8 b0 b1 b2 b3 b4 b5 b6 b7) (8 - j) j = r) ∧ Hid (wr.heap[w.heap.size]? = some (.cells #[.int .i64 k, .int .i64 n, .string s, .int .i64 a0, .int .i64 a1, .int .i64 a2, .int .i64 a3, .int .i64 a4, .int .i64 a5, .int .i64 a6, .int .i64 a7] 44 (0, 0))) ∧ Hid (wr.heap[w.heap.size + 1]? = some (.cells #[.int .i64 k, .int .i64 n, .string s', .int .i64 b0, .int .i64 b1, .int .i64 b2, .int .i64 b3, .int .i64 b4, .int .i64 b5, .int .i64 b6, .int .i64 b7] 44 (0, 0))) ∧ Hid (Below w.heap.size w wr)) (fun i _ => 8 - (intOf i).toNat)
            case atStart => exact ⟨0, by omega, rfl, HR2.out, HA.out, HB.out, HBel.out⟩
            case round =>
              obtain ⟨i, hi, rfl, HC, HA, HB, HBel⟩ := hrel
              by_cases hlt : i < 8
              · have c0 := nth8_cell HA.out i hlt
                have c1 := nth8_cell HB.out i hlt
                by_cases he : nth8 a0 a1 a2 a3 a4 a5 a6 a7 i = nth8 b0 b1 b2 b3 b4 b5 b6 b7 i
                · have H0 := hid he
                  rw [← he] at c1
                  generalize nth8 a0 a1 a2 a3 a4 a5 a6 a7 i = xi at c0 c1
                  clear he
                  go_wp2_with fail
                  go_quiet (fail)
                  go_wp2
                  go_roundw
                  case rel => exact ⟨i + 1, by omega, by go_num, (cmpFrom_eq hlt H0.out).symm.trans HC.out, HA.out, HB.out, below_drewN HBel.out _⟩
                  case measure => simp [intOf]; omega
                · have H0 := hid he
                  have H1 := hid (cmpFrom_ne hlt he)
                  have hne : (nth8 a0 a1 a2 a3 a4 a5 a6 a7 i != nth8 b0 b1 b2 b3 b4 b5 b6 b7 i) = true := by simpa using he
                  clear he
                  go_wp2_with fail
                  go_quiet (fail)
                  have HA2 := hid (show (wr.drewN nq).heap[w.heap.size]? = _ from HA.out)
                  have HB2 := hid (show (wr.drewN nq).heap[w.heap.size + 1]? = _ from HB.out)
                  have HBel2 := hid (below_drewN HBel.out nq)
                  clear c0 c1 HA HB HBel
                  generalize wr.drewN nq = wr2 at *
                  have c0 := nth8_cell HA2.out i hlt
                  have c1 := nth8_cell HB2.out i hlt
                  go_wp2_with fail
                  go_quiet ((go_at_call 130; exact Calls.quiet_of_same order_any))
                  go_wp2
                  go_ret
                  exact ⟨ret_int (H1.out.symm.trans HC.out), below_drewN HBel2.out _⟩
              · have h8 : i = 8 := by omega
                subst h8
                go_wp2
                go_ret
                exact ⟨ret_int (by have := HC.out; simpa [cmpFrom] using this), HBel.out⟩
          · have hz : ((s.size : Int) != (s'.size : Int)) = true := by simp only [bne_iff_ne, ne_eq]; omega
            have HR2 := hid (show cmpI (s.size : Int) (s'.size : Int) = r by
              rw [← HR.out, ← HC.out, HE.out]; exact (thn_ne (cmpI_ne (by omega))).symm)
            clear HE HC HR hs2
            by_cases hj3 : j < s.size
            · have hj4 : ¬ j < s'.size := by omega
              clear hlt
              go_wp2_with (first | (go_at_call 130; refine order_any.mono ?_; rintro e w' ⟨rfl, rfl⟩))
              go_ret
              exact ⟨ret_int HR2.out, HBel.out⟩
            · clear hlt
              go_wp2_with (first | (go_at_call 130; refine order_any.mono ?_; rintro e w' ⟨rfl, rfl⟩))
              go_ret
              exact ⟨ret_int HR2.out, HBel.out⟩
    · have hz : (n != n') = true := by simpa using h2
      rw [thn_ne (cmpI_ne h2)] at hr
      have HR := hid hr
      clear hr h2
      go_enter Try.func101, Try.ntmps101
      go_wp2_with (first | (go_at_call 130; refine order_any.mono ?_; rintro e w' ⟨rfl, rfl⟩))
      go_ret
      exact ⟨ret_int HR.out, ((Below.refl _ _).alloc (Nat.le_refl _) _).alloc (by simp) _⟩
  · have hz : (k != k') = true := by simpa using h1
    rw [thn_ne (cmpI_ne h1)] at hr
    have HR := hid hr
    clear hr h1
    go_enter Try.func101, Try.ntmps101
    go_wp2_with (first | (go_at_call 130; refine order_any.mono ?_; rintro e w' ⟨rfl, rfl⟩))
    go_ret
    exact ⟨ret_int HR.out, ((Below.refl _ _).alloc (Nat.le_refl _) _).alloc (by simp) _⟩
end Go.Proofs.Ytjfholofgohcjaa
namespace Go.Proofs.Ytjfholofgohcjaa
open Go.RowKit Go.Sort Go.Shelf

theorem regrown_cell {w : World} {a : Addr} {v : Value} (h : w.cell? a = some v) (d : Nat) (os : Array Obj) : (grow (redrawn w d) os).cell? a = some v :=
  ((below_regrown w d os).cell (block_lt_of_cell h)).trans h
theorem rcompare_is {x y : Vl} {c : Int} {w : World} (h : cmpL x y = c) : Calls Try.prog 101 #[x.val, y.val] w fun e w' => e = .returned (.int .i64 c) ∧ Below w.heap.size w w' := by rw [← h]; exact rcompare_any x.small y.small
set_option maxHeartbeats 1000000 in
theorem rrow_any {u v : Value} {r q : Rw} {w : World} (hu : RowAt w u r) (hv : RowAt w v q) :
    Calls Try.prog 56 #[u, v] w fun e w' => e = .returned (.int .i64 (cmpR r q)) ∧ Below w.heap.size w w' := by
  obtain ⟨p, cap, rfl, hcap, hmax, hx⟩ := hu
  obtain ⟨p', cap', rfl, hcap', hmax', hx'⟩ := hv
  unfold maxLen at hmax hmax'
  generalize hr : cmpR r q = res
  have HR := hid hr
  have HX := hid hx
  have HX' := hid hx'
  clear hr hx hx'
  generalize hn : r.length = n at *
  generalize hn' : q.length = m at *
  have HN := hid hn
  have HN' := hid hn'
  clear hn hn'
  go_enter Try.func56, Try.ntmps56
  go_wp2
  go_loopw [5] (fun i wr => ∃ k : Nat, k ≤ n ∧ k ≤ m ∧ i = .int .i64 k ∧ Hid (Below w.heap.size w wr) ∧ Hid (cmpR (r.drop k) (q.drop k) = res)) (fun i _ => n - (intOf i).toNat)
  case atStart => exact ⟨0, by omega, by omega, rfl, Below.refl _ _, HR.out⟩
  case round =>
    obtain ⟨k, hk, hk', rfl, HG, HD⟩ := hrel
    by_cases hlt : k < n
    · have hkr : k < r.length := by rw [HN.out]; exact hlt
      by_cases hlt' : k < m
      · have hkq : k < q.length := by rw [HN'.out]; exact hlt'
        obtain ⟨b, o, rfl, -, hj⟩ := HX.out (by intro e; subst e; simp at hkr)
        obtain ⟨b', o', rfl, -, hj'⟩ := HX'.out (by intro e; subst e; simp at hkq)
        obtain ⟨c0, c1, c2, c3, c4, c5, c6, c7, c8, c9, c10⟩ := val_cells ((hj k _ (get!_some hkr)).on HG.out)
        obtain ⟨d0, d1, d2, d3, d4, d5, d6, d7, d8, d9, d10⟩ := val_cells ((hj' k _ (get!_some hkq)).on HG.out)
        have HS := hid (cmpR_step hkr hkq)
        generalize r[k]! = x at c0 c1 c2 c3 c4 c5 c6 c7 c8 c9 c10 HS
        generalize q[k]! = y at d0 d1 d2 d3 d4 d5 d6 d7 d8 d9 d10 HS
        clear hj hj'
        replace c0 := regrown_cell c0
        replace c1 := regrown_cell c1
        replace c2 := regrown_cell c2
        replace c3 := regrown_cell c3
        replace c4 := regrown_cell c4
        replace c5 := regrown_cell c5
        replace c6 := regrown_cell c6
        replace c7 := regrown_cell c7
        replace c8 := regrown_cell c8
        replace c9 := regrown_cell c9
        replace c10 := regrown_cell c10
        replace d0 := regrown_cell d0
        replace d1 := regrown_cell d1
        replace d2 := regrown_cell d2
        replace d3 := regrown_cell d3
        replace d4 := regrown_cell d4
        replace d5 := regrown_cell d5
        replace d6 := regrown_cell d6
        replace d7 := regrown_cell d7
        replace d8 := regrown_cell d8
        replace d9 := regrown_cell d9
        replace d10 := regrown_cell d10
        by_cases hz : cmpL x y = 0
        · have HZ := hid hz
          clear hz
          go_wp2_with fail
          refine wp_region_quiet_below (by kernel_rfl) (by kernel_rfl) ?_
          repeat (go_big_quiet_step (first | (go_at_call 101; exact Calls.regrown_of (rcompare_is HZ.out))))
          refine wpQuiet_nil ?_
          intro _ hw'
          obtain ⟨⟨dq, osq⟩, hw''⟩ := hw'
          subst hw''
          go_wp2
          go_roundw
          case rel =>
            refine ⟨k + 1, by omega, by omega, by go_num, below_on HG.out (below_regrown wr dq osq), ?_⟩
            have := HS.out
            rw [HD.out, thn_zero (by simp [HZ.out])] at this
            exact this.symm
          case measure => simp [intOf]; omega
        · generalize hcv : cmpL x y = cv at *
          have hcz : (cv != 0) = true := by simpa using hz
          have HZ := hid hz
          have HCV := hid hcv
          clear hz hcv
          go_wp2_with fail
          refine wp_region_quiet_below (by kernel_rfl) (by kernel_rfl) ?_
          repeat (go_big_quiet_step (first | (go_at_call 101; exact Calls.regrown_of (rcompare_is HCV.out))))
          refine wpQuiet_nil ?_
          intro _ hw'
          obtain ⟨⟨dq, osq⟩, hw''⟩ := hw'
          subst hw''
          go_wp2
          go_ret
          refine ⟨ret_int ?_, below_on HG.out (below_regrown wr dq osq)⟩
          have := HS.out
          rw [HD.out, thn_ne hcz] at this
          exact this.symm
      · have hnl : decide ((k : Int) < (m : Int)) = false := by simp; omega
        have hkm : k = m := by omega
        subst hkm
        have hnm : ¬ (n : Int) < (k : Int) := by omega
        go_wp2
        go_ret
        exact ⟨ret_int ((cmpR_longer hkr (by rw [HN'.out]; omega)).symm.trans HD.out), HG.out⟩
    · have hks : k = n := by omega
      subst hks
      by_cases hlt' : k < m
      · go_wp2
        go_ret
        exact ⟨ret_int ((cmpR_shorter (by rw [HN.out]; omega) (by rw [HN'.out]; omega)).symm.trans HD.out), HG.out⟩
      · have hkm : k = m := by omega
        subst hkm
        go_wp2
        go_ret
        exact ⟨ret_int ((cmpR_ends (by rw [HN.out]; omega) (by rw [HN'.out]; omega)).symm.trans HD.out), HG.out⟩
theorem cols_ne {cs ds : List Cl} {k : Nat} (h : ¬ cs[k]! = ds[k]!) : ¬ cs = ds := fun e => h (by rw [e])
theorem cols_eq {cs ds : List Cl} (h1 : cs.length = ds.length) (h : ∀ k, k < cs.length → cs[k]! = ds[k]!) : cs = ds := by
  apply List.ext_getElem h1
  intro i hi hi'
  have := h i hi
  rw [List.getElem!_eq_getElem?_getD, List.getElem!_eq_getElem?_getD, List.getElem?_eq_getElem hi, List.getElem?_eq_getElem hi'] at this
  exact this
set_option maxHeartbeats 1000000 in
theorem samecols_any {u v : Value} {cs ds : List Cl} {w : World} (hu : ColsAt w u cs) (hv : ColsAt w v ds) :
    Calls Try.prog 34 #[u, v] w fun e w' => e = .returned (.bool (decide (cs = ds))) ∧ Below w.heap.size w w' := by
  obtain ⟨p, cap, rfl, hcap, hmax, hx⟩ := hu
  obtain ⟨p', cap', rfl, hcap', hmax', hx'⟩ := hv
  unfold maxLen at hmax hmax'
  generalize hr : decide (cs = ds) = res
  have HR := hid hr
  have HX := hid hx
  have HX' := hid hx'
  clear hr hx hx'
  generalize hn : cs.length = n at *
  generalize hn' : ds.length = m at *
  have HN := hid hn
  have HN' := hid hn'
  clear hn hn'
  by_cases hl : n = m
  · subst hl
    go_enter Try.func34, Try.ntmps34
    go_wp2
    go_loopw [5] (fun i wr => ∃ k : Nat, k ≤ n ∧ i = .int .i64 k ∧ Hid (Below w.heap.size w wr) ∧ Hid (∀ j, j < k → cs[j]! = ds[j]!)) (fun i _ => n - (intOf i).toNat)
    case atStart => exact ⟨0, by omega, rfl, Below.refl _ _, fun j h => absurd h (Nat.not_lt_zero _)⟩
    case round =>
      obtain ⟨k, hk, rfl, HB, HA⟩ := hrel
      by_cases hlt : k < n
      · have hkc : k < cs.length := by rw [HN.out]; exact hlt
        have hkd : k < ds.length := by rw [HN'.out]; exact hlt
        obtain ⟨b, o, rfl, -, hj⟩ := HX.out (by intro e; subst e; simp at hkc)
        obtain ⟨b', o', rfl, -, hj'⟩ := HX'.out (by intro e; subst e; simp at hkd)
        obtain ⟨c0, c1⟩ := col_cells ((hj k _ (get!_some hkc)).on HB.out)
        obtain ⟨d0, d1⟩ := col_cells ((hj' k _ (get!_some hkd)).on HB.out)
        have HNE := hid (cols_ne (cs := cs) (ds := ds) (k := k))
        have HSTEP : Hid (cs[k]! = ds[k]! → ∀ j, j < k + 1 → cs[j]! = ds[j]!) := fun e j hj => by
          by_cases h : j = k
          · subst h; exact e
          · exact HA.out j (by omega)
        generalize cs[k]! = x at c0 c1 HNE HSTEP
        generalize ds[k]! = y at d0 d1 HNE HSTEP
        clear hj hj'
        have hq : ∀ w : World, Sem.run Try.prog (binOp .neq 32 (.agg #[.string x.nm, .int .i64 x.kd]) (.agg #[.string y.nm, .int .i64 y.kd])) w = .ok (.bool (!eqC x y)) w := fun w => neqC.1 x y w
        cases hb : eqC x y with
        | true =>
          have HE := hid ((eqC_iff x y).1 hb)
          simp only [hb] at hq
          clear hb
          go_wp2_with fail
          go_quiet (fail)
          go_wp2
          go_roundw
          case rel => exact ⟨k + 1, by omega, by go_num, below_drewN HB.out _, HSTEP.out HE.out⟩
          case measure => simp [intOf]; omega
        | false =>
          have HE := hid (show ¬ x = y from fun e => by rw [(eqC_iff x y).2 e] at hb; cases hb)
          simp only [hb] at hq
          clear hb
          go_wp2_with fail
          go_quiet (fail)
          go_wp2
          go_ret
          exact ⟨ret_bool ((decide_eq_false (HNE.out HE.out)).symm.trans HR.out), below_drewN HB.out _⟩
      · have hks : k = n := by omega
        subst hks
        go_wp2
        go_ret
        exact ⟨ret_bool ((decide_eq_true (cols_eq (by rw [HN.out, HN'.out]) (by rw [HN.out]; exact HA.out))).symm.trans HR.out), HB.out⟩
  · have hne : ((n : Int) != (m : Int)) = true := by simp; omega
    go_enter Try.func34, Try.ntmps34
    go_wp2
    go_ret
    refine ⟨ret_bool ((decide_eq_false ?_).symm.trans HR.out), Below.refl _ _⟩
    intro e
    subst e
    exact hl (HN.out.symm.trans HN'.out)
end Go.Proofs.Ytjfholofgohcjaa
namespace Go.Proofs.Ytjfholofgohcjaa
open Go.RowKit Go.Sort Go.Shelf

theorem samecols_is {u v : Value} {r q : List Cl} {w : World} {c : Bool} (hu : ColsAt w u r) (hv : ColsAt w v q) (h : decide (r = q) = c) :
    Calls Try.prog 34 #[u, v] w fun e w' => e = .returned (.bool c) ∧ Below w.heap.size w w' := by rw [← h]; exact samecols_any hu hv
theorem rrow_is {u v : Value} {r q : Rw} {w : World} {c : Int} (hu : RowAt w u r) (hv : RowAt w v q) (h : cmpR r q = c) :
    Calls Try.prog 56 #[u, v] w fun e w' => e = .returned (.int .i64 c) ∧ Below w.heap.size w w' := by rw [← h]; exact rrow_any hu hv
set_option maxHeartbeats 1000000 in
theorem rsame_any {u v : Value} {cs ds : List Cl} {rs qs : List Rw} {w : World} (hu : TabAt w u cs rs) (hv : TabAt w v ds qs) :
    Calls Try.prog 17 #[u, v] w fun e w' => e = .returned (.bool (decide (cs = ds ∧ rs = qs))) ∧ Below w.heap.size w w' := by
  obtain ⟨c, r, rfl, hc, hs, ⟨p, cap, rfl, hcap, hmax, hx⟩, hh⟩ := hu
  obtain ⟨c', r', rfl, hc', hs', ⟨p', cap', rfl, hcap', hmax', hx'⟩, hh'⟩ := hv
  unfold maxLen at hmax hmax'
  generalize hn : hs.length = n at *
  generalize hn' : hs'.length = m at *
  have HN := hid hn
  have HN' := hid hn'
  clear hn hn'
  have HC := hid hc
  have HC' := hid hc'
  have HX := hid hx
  have HX' := hid hx'
  have HH := hid hh
  have HH' := hid hh'
  clear hc hc' hx hx' hh hh'
  have HB : Hid (Below w.heap.size w ((w.alloc (.cells #[c, .slice p n cap] 25)).alloc (.cells #[c', .slice p' m cap'] 25))) := ((Below.refl w.heap.size w).alloc (Nat.le_refl _) _).alloc (by simp) _
  have K0 := hid (block_on (alloc_block w (.cells #[c, .slice p n cap] 25)) ((Below.refl _ _).alloc (Nat.le_refl _) (.cells #[c', .slice p' m cap'] 25)))
  have K1 : Hid (((w.alloc (.cells #[c, .slice p n cap] 25)).alloc (.cells #[c', .slice p' m cap'] 25)).heap[w.heap.size + 1]? = some (.cells #[c', .slice p' m cap'] 25 (0, 0))) := by
    have h := alloc_block (w.alloc (.cells #[c, .slice p n cap] 25)) (.cells #[c', .slice p' m cap'] 25)
    rw [World.size_alloc] at h
    exact h
  cases hcd : decide (cs = ds) with
  | false =>
    have he : decide (cs = ds ∧ rs = qs) = false := decide_eq_false fun h => of_decide_eq_false hcd h.1
    rw [he]
    go_enter Try.func17, Try.ntmps17
    go_wp2_with (first | (go_at_call 34; refine (samecols_is (HC.out.on HB.out) (HC'.out.on HB.out) hcd).mono ?_; rintro e w1 ⟨rfl, hb1⟩))
    go_ret
    exact ⟨rfl, below_on HB.out hb1⟩
  | true =>
    have he : decide (cs = ds ∧ rs = qs) = decide (rs = qs) := by
      have := of_decide_eq_true hcd
      by_cases h : rs = qs <;> simp [this, h]
    rw [he]
    clear he
    generalize hr : decide (rs = qs) = res
    have HR := hid hr
    clear hr
    by_cases hl : n = m
    · subst hl
      go_enter Try.func17, Try.ntmps17
      go_wp2_with (first | (go_at_call 34; refine (samecols_is (HC.out.on HB.out) (HC'.out.on HB.out) hcd).mono ?_; rintro e w1 ⟨rfl, hb1⟩; have HB1 := hid (below_on HB.out hb1); have HK0 := hid (block_on K0.out hb1); have HK1 := hid (block_on K1.out hb1); have k0 := block_cell HK0.out; have k1 := block_cell HK1.out; clear hb1))
      go_loopw [5] (fun i wr => ∃ k : Nat, k ≤ n ∧ i = .int .i64 k ∧ Hid (Below w.heap.size w wr) ∧ Hid (wr.heap[w.heap.size]? = some (.cells #[c, .slice p n cap] 25 (0, 0))) ∧ Hid (wr.heap[w.heap.size + 1]? = some (.cells #[c', .slice p' n cap'] 25 (0, 0))) ∧ Hid (∀ j, j < k → rs[j]! = qs[j]!)) (fun i _ => n - (intOf i).toNat)
      case atStart => exact ⟨0, by omega, rfl, HB1.out, HK0.out, HK1.out, fun j h => absurd h (Nat.not_lt_zero _)⟩
      case round =>
        clear k0 k1 HK0 HK1
        obtain ⟨k, hk, rfl, HB2, HK0, HK1, HA⟩ := hrel
        by_cases hlt : k < n
        · have hkh : k < hs.length := by rw [HN.out]; exact hlt
          have hkr : k < rs.length := by rw [← HH.out.1]; exact hkh
          have hkh' : k < hs'.length := by rw [HN'.out]; exact hlt
          have hkr' : k < qs.length := by rw [← HH'.out.1]; exact hkh'
          obtain ⟨b, o, rfl, -, hj⟩ := HX.out (by intro e; subst e; simp at hkh)
          obtain ⟨b', o', rfl, -, hj'⟩ := HX'.out (by intro e; subst e; simp at hkh')
          have hd := head_cell (fun j x hjx => (hj j x hjx).on HB2.out) (get!_some hkh)
          have hd' := head_cell (fun j x hjx => (hj' j x hjx).on HB2.out) (get!_some hkh')
          have HRow := hid ((HH.out.2 k _ _ (get!_some hkh) (get!_some hkr)).on HB2.out)
          have HRow' := hid ((HH'.out.2 k _ _ (get!_some hkh') (get!_some hkr')).on HB2.out)
          generalize hs[k]! = hd0 at hd HRow
          generalize hs'[k]! = hd0' at hd' HRow'
          clear hj hj'
          have HNE := hid (rows_ne (rs := rs) (qs := qs) (k := k))
          have HSTEP : Hid (rs[k]! = qs[k]! → ∀ j, j < k + 1 → rs[j]! = qs[j]!) := fun e j hj => by
            by_cases h : j = k
            · subst h; exact e
            · exact HA.out j (by omega)
          generalize rs[k]! = r0 at HRow HNE HSTEP
          generalize qs[k]! = q0 at HRow' HNE HSTEP
          have k0 := block_cell HK0.out
          have k1 := block_cell HK1.out
          have kk0 : ∀ d os j, (grow (redrawn wr d) os).cell? ⟨w.heap.size, j, none⟩ = (#[c, .slice (some ⟨b, o, none⟩) n cap] : Array Value)[j]? := fun d os j => block_cell (block_on HK0.out (below_regrown wr d os)) j
          have kk1 : ∀ d os j, (grow (redrawn wr d) os).cell? ⟨w.heap.size + 1, j, none⟩ = (#[c', .slice (some ⟨b', o', none⟩) n cap'] : Array Value)[j]? := fun d os j => block_cell (block_on HK1.out (below_regrown wr d os)) j
          have hd2 := regrown_cell hd
          have hd2' := regrown_cell hd'
          have HRw : ∀ d os, Hid (RowAt (grow (redrawn wr d) os) hd0 r0) := fun d os => HRow.out.on (below_regrown wr d os)
          have HRw' : ∀ d os, Hid (RowAt (grow (redrawn wr d) os) hd0' q0) := fun d os => HRow'.out.on (below_regrown wr d os)
          clear hd hd'
          by_cases hz : cmpR r0 q0 = 0
          · have HZ := hid hz
            clear hz
            go_wp2_with fail
            refine wp_region_quiet_below (by kernel_rfl) (by kernel_rfl) ?_
            repeat (go_big_quiet_step (first | (go_at_call 56; exact Calls.regrown_of (rrow_is (HRw _ _).out (HRw' _ _).out HZ.out))))
            refine wpQuiet_nil ?_
            intro _ hw'
            obtain ⟨⟨dq, osq⟩, hw''⟩ := hw'
            subst hw''
            go_wp2
            go_roundw
            case rel => exact ⟨k + 1, by omega, by go_num, below_on HB2.out (below_regrown wr dq osq), block_on HK0.out (below_regrown wr dq osq), block_on HK1.out (below_regrown wr dq osq), HSTEP.out ((cmpR_zero _ _).1 HZ.out)⟩
            case measure => simp [intOf]; omega
          · generalize hcv : cmpR r0 q0 = cv at *
            have hcz : (cv != 0) = true := by simpa using hz
            have HZ := hid (show ¬ r0 = q0 from fun e => hz (hcv.symm.trans ((cmpR_zero _ _).2 e)))
            have HCV := hid hcv
            clear hz hcv
            go_wp2_with fail
            refine wp_region_quiet_below (by kernel_rfl) (by kernel_rfl) ?_
            repeat (go_big_quiet_step (first | (go_at_call 56; exact Calls.regrown_of (rrow_is (HRw _ _).out (HRw' _ _).out HCV.out))))
            refine wpQuiet_nil ?_
            intro _ hw'
            obtain ⟨⟨dq, osq⟩, hw''⟩ := hw'
            subst hw''
            go_wp2
            go_ret
            exact ⟨ret_bool ((decide_eq_false (HNE.out HZ.out)).symm.trans HR.out), below_on HB2.out (below_regrown wr dq osq)⟩
        · have hks : k = n := by omega
          subst hks
          have k0 := block_cell HK0.out
          go_wp2
          go_ret
          exact ⟨ret_bool ((decide_eq_true (rows_eq (by rw [← HH.out.1, ← HH'.out.1, HN.out, HN'.out]) (by rw [← HH.out.1, HN.out]; exact HA.out))).symm.trans HR.out), HB2.out⟩
    · have hne : ((n : Int) != (m : Int)) = true := by simp; omega
      go_enter Try.func17, Try.ntmps17
      go_wp2_with (first | (go_at_call 34; refine (samecols_is (HC.out.on HB.out) (HC'.out.on HB.out) hcd).mono ?_; rintro e w1 ⟨rfl, hb1⟩; have HB1 := hid (below_on HB.out hb1); have HK0 := hid (block_on K0.out hb1); have HK1 := hid (block_on K1.out hb1); have k0 := block_cell HK0.out; have k1 := block_cell HK1.out; clear hb1))
      go_ret
      refine ⟨ret_bool ((decide_eq_false ?_).symm.trans HR.out), HB1.out⟩
      intro e
      subst e
      apply hl
      rw [← HN.out, ← HN'.out, HH.out.1, HH'.out.1]
end Go.Proofs.Ytjfholofgohcjaa
namespace Go.Proofs.Ytjfholofgohcjaa
open Go.RowKit Go.Sort Go.Shelf

theorem rname_is {s : ByteArray} {r : Bool} {w : World} (hs : s.size ≤ maxLen) (h : nameB s = r) : Calls Try.prog 83 #[.string s] w fun e w' => e = .returned (.bool r) ∧ w' = w := by rw [← h]; exact rname_any hs
theorem rfind_is {v : Value} {cs : List Cl} {nm : ByteArray} {r : Int} {w : World} (hv : ColsAt w v cs) (h : findC cs nm = r) : Calls Try.prog 97 #[v, .string nm] w fun e w' => e = .returned (.int .i64 r) ∧ Below w.heap.size w w' := by rw [← h]; exact rfind_any hv
theorem cell_on {w w' : World} {a : Addr} {v : Value} (h : w.cell? a = some v) (hb : Below w.heap.size w w') : w'.cell? a = some v :=
  (hb.cell (block_lt_of_cell h)).trans h
set_option maxHeartbeats 1000000 in
theorem rcols_any {v : Value} {cs : List Cl} {w : World} (hv : ColsAt w v cs) :
    Calls Try.prog 49 #[v] w fun e w' => e = .returned (.bool (colsB cs)) ∧ Below w.heap.size w w' := by
  have hv0 := hv
  obtain ⟨p, cap, rfl, hcap, hmax, hx⟩ := hv
  unfold maxLen at hmax
  generalize hr : colsB cs = r
  have HR := hid hr
  clear hr
  by_cases h1 : cs.length < 1
  · have g1 : (cs.length : Int) < 1 := by omega
    clear hx hv0
    go_enter Try.func49, Try.ntmps49
    go_wp2
    go_ret
    exact ⟨ret_bool ((colsB_no (by omega)).symm.trans HR.out), Below.refl _ _⟩
  · have g1 : ¬ (cs.length : Int) < 1 := by omega
    by_cases h2 : 16 < cs.length
    · have g2 : (16 : Int) < (cs.length : Int) := by omega
      clear hx hv0
      go_enter Try.func49, Try.ntmps49
      go_wp2
      go_ret
      exact ⟨ret_bool ((colsB_no (by omega)).symm.trans HR.out), Below.refl _ _⟩
    · have g2 : ¬ (16 : Int) < (cs.length : Int) := by omega
      obtain ⟨b, o, rfl, -, hj⟩ := hx (by intro e; subst e; simp at h1)
      have HV := hid hv0
      have HJ := hid hj
      clear hx hv0 hj
      generalize hn : cs.length = n at *
      have HN := hid hn
      clear hn
      go_enter Try.func49, Try.ntmps49
      go_wp2
      go_loopw [3] (fun i wr => ∃ k : Nat, k ≤ n ∧ i = .int .i64 k ∧ Hid (Below w.heap.size w wr) ∧ Hid (∀ j, j < k → colOk cs j cs[j]! = true)) (fun i _ => n - (intOf i).toNat)
      case atStart => exact ⟨0, by omega, rfl, Below.refl _ _, fun j h => absurd h (Nat.not_lt_zero _)⟩
      case round =>
        obtain ⟨k, hk, rfl, HB, HA⟩ := hrel
        by_cases hlt : k < n
        · have hkc : k < cs.length := by rw [HN.out]; exact hlt
          obtain ⟨hc0, hc1⟩ := col_cells ((HJ.out k _ (get!_some hkc)).on HB.out)
          generalize hcc : cs[k]! = c at hc0 hc1
          have HCC := hid hcc
          have HC1 := hid hc1
          clear hcc
          have HS := hid c.small
          cases hb : nameB c.nm with
          | false =>
            go_wp2_with (first | (go_at_call 83; refine (rname_is HS.out hb).mono ?_; rintro e w' ⟨rfl, rfl⟩))
            go_ret
            exact ⟨ret_bool ((colsB_bad hkc (by rw [HCC.out]; exact colOk_name hb)).symm.trans HR.out), HB.out⟩
          | true =>
            generalize hf : findC cs c.nm = f
            have HF := hid hf
            clear hf
            by_cases hfk : f = (k : Int)
            · subst hfk
              by_cases h3 : c.kd < 1
              · go_wp2_with (first | (go_at_call 83; refine (rname_is HS.out hb).mono ?_; rintro e w' ⟨rfl, rfl⟩) | (go_at_call 97; refine (rfind_is (HV.out.on HB.out) HF.out).mono ?_; rintro e w2 ⟨rfl, hbl⟩; have hc2 := cell_on HC1.out hbl; have HBL := hid hbl; clear hbl))
                go_ret
                exact ⟨ret_bool ((colsB_bad hkc (by rw [HCC.out]; exact colOk_kind (by omega))).symm.trans HR.out), below_on HB.out HBL.out⟩
              · by_cases h4 : 4 < c.kd
                · go_wp2_with (first | (go_at_call 83; refine (rname_is HS.out hb).mono ?_; rintro e w' ⟨rfl, rfl⟩) | (go_at_call 97; refine (rfind_is (HV.out.on HB.out) HF.out).mono ?_; rintro e w2 ⟨rfl, hbl⟩; have hc2 := cell_on HC1.out hbl; have HBL := hid hbl; clear hbl))
                  go_ret
                  exact ⟨ret_bool ((colsB_bad hkc (by rw [HCC.out]; exact colOk_kind (by omega))).symm.trans HR.out), below_on HB.out HBL.out⟩
                · go_wp2_with (first | (go_at_call 83; refine (rname_is HS.out hb).mono ?_; rintro e w' ⟨rfl, rfl⟩) | (go_at_call 97; refine (rfind_is (HV.out.on HB.out) HF.out).mono ?_; rintro e w2 ⟨rfl, hbl⟩; have hc2 := cell_on HC1.out hbl; have HBL := hid hbl; clear hbl))
                  go_roundw
                  case rel =>
                    refine ⟨k + 1, by omega, by go_num, below_on HB.out HBL.out, fun j h => ?_⟩
                    by_cases e : j = k
                    · subst e; rw [HCC.out]; exact colOk_yes hb HF.out (by omega) (by omega)
                    · exact HA.out j (by omega)
                  case measure => simp [intOf]; omega
            · have hne : (f != (k : Int)) = true := by simpa using hfk
              have HFK := hid hfk
              clear hfk
              go_wp2_with (first | (go_at_call 83; refine (rname_is HS.out hb).mono ?_; rintro e w' ⟨rfl, rfl⟩) | (go_at_call 97; refine (rfind_is (HV.out.on HB.out) HF.out).mono ?_; rintro e w2 ⟨rfl, hbl⟩; have hc2 := cell_on HC1.out hbl; have HBL := hid hbl; clear hbl))
              go_ret
              exact ⟨ret_bool ((colsB_bad hkc (by rw [HCC.out]; exact colOk_find (by rw [HF.out]; exact HFK.out))).symm.trans HR.out), below_on HB.out HBL.out⟩
        · have hks : k = n := by omega
          subst hks
          go_wp2
          go_ret
          exact ⟨ret_bool ((colsB_yes (by rw [HN.out]; omega) (by rw [HN.out]; exact HA.out)).symm.trans HR.out), HB.out⟩
end Go.Proofs.Ytjfholofgohcjaa
namespace Go.Proofs.Ytjfholofgohcjaa
open Go.RowKit Go.Sort Go.Shelf

theorem rcols_is {v : Value} {cs : List Cl} {r : Bool} {w : World} (hv : ColsAt w v cs) (h : colsB cs = r) : Calls Try.prog 49 #[v] w fun e w' => e = .returned (.bool r) ∧ Below w.heap.size w w' := by rw [← h]; exact rcols_any hv
theorem rvalid_is {x : Vl} {r : Bool} {w : World} (h : validL x = r) : Calls Try.prog 50 #[x.val] w fun e w' => e = .returned (.bool r) ∧ Below w.heap.size w w' := by rw [← h]; exact rvalid_any
set_option maxHeartbeats 2000000 in
theorem rcheck_any {v : Value} {cs : List Cl} {rs : List Rw} {w : World} (hv : TabAt w v cs rs) :
    Calls Try.prog 15 #[v] w fun e w' => e = .returned (.int .i64 (checkV cs rs)) ∧ Below w.heap.size w w' := by
  obtain ⟨c, rv, rfl, hc, hs, hrs, hh⟩ := hv
  have HC := hid hc
  obtain ⟨p, cap, rfl, hcap, hmax, hx⟩ := hrs
  obtain ⟨q, cap', rfl, hcap', hmax', hy⟩ := hc
  unfold maxLen at hmax hmax'
  generalize hr : checkV cs rs = res
  have HR := hid hr
  have HX := hid hx
  have HY := hid hy
  have HH := hid hh
  clear hr hx hh hy
  generalize hn : hs.length = n at *
  generalize hm : cs.length = m at *
  have HN := hid hn
  have HM := hid hm
  clear hn hm
  have HE : Hid (Below w.heap.size w (w.alloc (.cells #[.slice q m cap', .slice p n cap] 25))) := (Below.refl _ _).alloc (Nat.le_refl _) _
  have KB := hid (alloc_block w (.cells #[.slice q m cap', .slice p n cap] 25))
  cases hb : colsB cs with
  | false =>
    go_enter Try.func15, Try.ntmps15
    go_wp2_with (first | (go_at_call 49; refine (rcols_is (HC.out.on HE.out) hb).mono ?_; rintro e w1 ⟨rfl, hb1⟩))
    go_ret
    exact ⟨ret_int ((check_cols hb).symm.trans HR.out), below_on HE.out hb1⟩
  | true =>
    have HCB := hid hb
    go_enter Try.func15, Try.ntmps15
    go_wp2_with (first | (go_at_call 49; refine (rcols_is (HC.out.on HE.out) hb).mono ?_; rintro e w1 ⟨rfl, hb1⟩; have HB1 := hid (below_on HE.out hb1); have KB1 := hid (block_on KB.out hb1); have kb1 := block_cell KB1.out; clear hb1))
    clear kb1 hb HE KB
    go_loopw [3] (fun i wr => ∃ k : Nat, k ≤ n ∧ i = .int .i64 k ∧ Hid (Below w.heap.size w wr) ∧ Hid (wr.heap[w.heap.size]? = some (.cells #[.slice q m cap', .slice p n cap] 25 (0, 0))) ∧ Hid (∀ j, j < k → rowB cs rs[j]! = true)) (fun i _ => n - (intOf i).toNat)
    case atStart => exact ⟨0, by omega, rfl, HB1.out, KB1.out, fun j h => absurd h (Nat.not_lt_zero _)⟩
    case round =>
      clear HB1 KB1
      obtain ⟨k, hk, rfl, HB, HK, HA⟩ := hrel
      have k0 := block_cell HK.out
      by_cases hlt : k < n
      · have hkh : k < hs.length := by rw [HN.out]; exact hlt
        have hkr : k < rs.length := by rw [← HH.out.1]; exact hkh
        obtain ⟨b, o, rfl, -, hj⟩ := HX.out (by intro e; subst e; simp at hkh)
        have hd := head_cell (fun j x hjx => (hj j x hjx).on HB.out) (get!_some hkh)
        have HRow := hid ((HH.out.2 k _ _ (get!_some hkh) (get!_some hkr)).on HB.out)
        have HBAD := hid (fun h => check_bad (cs := cs) (rs := rs) HCB.out hkr h)
        have HSTEP : Hid (rowB cs rs[k]! = true → ∀ j, j < k + 1 → rowB cs rs[j]! = true) := fun e j hj => by
          by_cases h : j = k
          · subst h; exact e
          · exact HA.out j (by omega)
        generalize hs[k]! = hd0 at hd HRow
        generalize rs[k]! = r at HRow HBAD HSTEP
        clear hj
        obtain ⟨q', capr, rfl, hcapr, hmaxr, hz⟩ := HRow.out
        unfold maxLen at hmaxr
        have HZ := hid hz
        clear hz
        generalize hl : r.length = l at *
        have HL := hid hl
        clear hl
        by_cases hlm : l = m
        · have hne : ((l : Int) != (m : Int)) = false := by simp; omega
          go_wp2_with fail
          go_quiet (fail)
          have HB2 := hid (below_drewN HB.out nq)
          have HK2 := hid (show (wr.drewN nq).heap[w.heap.size]? = _ from HK.out)
          have hd2 : (wr.drewN nq).cell? ⟨b, o + k, none⟩ = _ := hd
          have HD2 := hid hd2
          have HZ2 : Hid (r ≠ [] → ∃ b o, q' = some ⟨b, o, none⟩ ∧ (any b ∧ l * bsz 11 ≤ 140737488355328) ∧ ∀ (j : Nat) x, r[j]? = some x → CellsAt (wr.drewN nq) b (o + j * 11) x.cells) := fun hne => by
            obtain ⟨b, o, hp, hQ, hj⟩ := HZ.out hne
            exact ⟨b, o, hp, hQ, fun j x hjx => (hj j x hjx).on (below_drewN (Below.refl _ _) nq)⟩
          clear k0 hd HB HK HZ HRow hd2
          generalize wr.drewN nq = w3 at *
          go_wp2
          go_loopw [4] (fun i w4 => ∃ j : Nat, j ≤ m ∧ i = .int .i64 j ∧ Hid (Below w3.heap.size w3 w4) ∧ Hid (∀ t, t < j → fitB cs[t]!.kd r[t]! = true)) (fun i _ => m - (intOf i).toNat)
          case atStart => exact ⟨0, by omega, rfl, Below.refl _ _, fun j h => absurd h (Nat.not_lt_zero _)⟩
          case round =>
            obtain ⟨j, hj, rfl, HB4, HF⟩ := hrel
            have HB5 := hid (below_on HB2.out HB4.out)
            have HK5 := hid (block_on HK2.out HB4.out)
            have kk := block_cell HK5.out
            by_cases hjm : j < m
            · have hjr : j < r.length := by rw [HL.out]; omega
              have hjc : j < cs.length := by rw [HM.out]; exact hjm
              obtain ⟨b1, o1, rfl, -, hv1⟩ := HZ2.out (by intro e; subst e; simp at hjr)
              obtain ⟨b2, o2, rfl, -, hv2⟩ := HY.out (by intro e; subst e; simp at hjc)
              obtain ⟨c0, c1, c2, c3, c4, c5, c6, c7, c8, c9, c10⟩ := val_cells ((hv1 j _ (get!_some hjr)).on HB4.out)
              obtain ⟨e0, e1⟩ := col_cells ((hv2 j _ (get!_some hjc)).on HB5.out)
              have hd5 := cell_on HD2.out HB4.out
              have HFBAD := hid (fun h => rowB_bad (cs := cs) (r := r) hjr h)
              have HFSTEP : Hid (fitB cs[j]!.kd r[j]! = true → ∀ t, t < j + 1 → fitB cs[t]!.kd r[t]! = true) := fun e t ht => by
                by_cases h : t = j
                · subst h; exact e
                · exact HF.out t (by omega)
              generalize r[j]! = x at c0 c1 c2 c3 c4 c5 c6 c7 c8 c9 c10 HFBAD HFSTEP
              generalize cs[j]! = y at e0 e1 HFBAD HFSTEP
              clear hv1 hv2 HZ2
              replace c0 := regrown_cell c0
              replace c1 := regrown_cell c1
              replace c2 := regrown_cell c2
              replace c3 := regrown_cell c3
              replace c4 := regrown_cell c4
              replace c5 := regrown_cell c5
              replace c6 := regrown_cell c6
              replace c7 := regrown_cell c7
              replace c8 := regrown_cell c8
              replace c9 := regrown_cell c9
              replace c10 := regrown_cell c10
              replace e1 := regrown_cell e1
              replace hd5 := regrown_cell hd5
              have kk0 : ∀ d os i, (grow (redrawn wr d) os).cell? ⟨w.heap.size, i, none⟩ = (#[.slice (some ⟨b2, o2, none⟩) m cap', .slice (some ⟨b, o, none⟩) n cap] : Array Value)[i]? := fun d os i => block_cell (block_on HK5.out (below_regrown wr d os)) i
              clear e0
              by_cases hkd : x.k = y.kd
              · have hkn : (x.k != y.kd) = false := by simpa using hkd
                have HKD := hid hkd
                clear hkd
                cases hvl : validL x with
                | true =>
                  go_wp2_with fail
                  refine wp_region_quiet_below (by kernel_rfl) (by kernel_rfl) ?_
                  repeat (go_big_quiet_step (first | (go_at_call 50; exact Calls.regrown_of (rvalid_is hvl))))
                  refine wpQuiet_nil ?_
                  intro _ hw'
                  obtain ⟨⟨dq, osq⟩, hw''⟩ := hw'
                  subst hw''
                  go_wp2
                  go_roundw
                  case rel => exact ⟨j + 1, by omega, by go_num, below_on HB4.out (below_regrown wr dq osq), HFSTEP.out (by rw [fit_is HKD.out]; exact hvl)⟩
                  case measure => simp [intOf]; omega
                | false =>
                  go_wp2_with fail
                  refine wp_region_quiet_below (by kernel_rfl) (by kernel_rfl) ?_
                  repeat (go_big_quiet_step (first | (go_at_call 50; exact Calls.regrown_of (rvalid_is hvl))))
                  refine wpQuiet_nil ?_
                  intro _ hw'
                  obtain ⟨⟨dq, osq⟩, hw''⟩ := hw'
                  subst hw''
                  go_wp2
                  go_ret
                  exact ⟨ret_int ((HBAD.out (HFBAD.out (by rw [fit_is HKD.out]; exact hvl))).symm.trans HR.out), below_on HB5.out (below_regrown wr dq osq)⟩
              · have hkn : (x.k != y.kd) = true := by simpa using hkd
                have HKD := hid hkd
                clear hkd
                go_wp2_with fail
                refine wp_region_quiet_below (by kernel_rfl) (by kernel_rfl) ?_
                repeat (go_big_quiet_step (first | fail))
                refine wpQuiet_nil ?_
                intro _ hw'
                obtain ⟨⟨dq, osq⟩, hw''⟩ := hw'
                subst hw''
                go_wp2
                go_ret
                exact ⟨ret_int ((HBAD.out (HFBAD.out (fit_no HKD.out))).symm.trans HR.out), below_on HB5.out (below_regrown wr dq osq)⟩
            · have hjs : j = m := by omega
              subst hjs
              go_wp2
              go_roundw
              case rel => exact ⟨k + 1, by omega, by go_num, HB5.out, HK5.out, HSTEP.out (rowB_yes (by rw [HL.out, HM.out]; exact hlm) (by rw [HL.out, hlm]; exact HF.out))⟩
              case measure => simp [intOf]; omega
        · have hne : ((l : Int) != (m : Int)) = true := by simp; omega
          go_wp2_with fail
          go_quiet (fail)
          go_wp2
          go_ret
          exact ⟨ret_int ((HBAD.out (rowB_no (by rw [HL.out, HM.out]; exact hlm))).symm.trans HR.out), below_drewN HB.out _⟩
      · have hks : k = n := by omega
        subst hks
        go_wp2
        go_ret
        exact ⟨ret_int ((check_ok HCB.out (by rw [← HH.out.1, HN.out]; exact HA.out)).symm.trans HR.out), HB.out⟩
end Go.Proofs.Ytjfholofgohcjaa
