/-
  What table.Same returns, for every two tables.
-/
import Derived.Test.YtaccindmjaejdaaPD
namespace Go.Proofs.Ytaccindmjaejdaa
open Go.RowKit Go.Sort Go.Shelf

theorem neqV : NeqAt Try.prog 44 (fun x : Vl => .agg x.cells.toArray) eqL := by
  refine ⟨fun x y w => ?_, GuardAt.agg _ (by kernel_rfl)⟩
  have he := eql24 x.k x.n x.s x.h0 x.h1 x.h2 x.h3 x.h4 x.h5 x.h6 x.h7 y.k y.n y.s y.h0 y.h1 y.h2 y.h3 y.h4 y.h5 y.h6 y.h7 w
  show Sem.run Try.prog (binOp .neq 44 x.val y.val) w = _
  rw [show eqL x y = eqV x.k x.n x.s x.h0 x.h1 x.h2 x.h3 x.h4 x.h5 x.h6 x.h7 y.k y.n y.s y.h0 y.h1 y.h2 y.h3 y.h4 y.h5 y.h6 y.h7 from rfl]
  generalize eqV x.k x.n x.s x.h0 x.h1 x.h2 x.h3 x.h4 x.h5 x.h6 x.h7 y.k y.n y.s y.h0 y.h1 y.h2 y.h3 y.h4 y.h5 y.h6 y.h7 = r at he ⊢
  have he' : Sem.run Try.prog (Op.equalIn Op.maxDepth 44 x.val y.val) w = .ok r w := he
  simp [binOp, Op.equal, he']
theorem neqC : NeqAt Try.prog 32 (fun x : Cl => .agg x.cells.toArray) eqC := by
  refine ⟨fun x y w => ?_, GuardAt.agg _ (by kernel_rfl)⟩
  have u3 := Try.underlying3
  have a3 := Try.isAgg3
  have z3 := Try.sizeOf3
  have u9 := Try.underlying9
  have a9 := Try.isAgg9
  have z9 := Try.sizeOf9
  have hS : Try.prog.underlying 32 = some (.struct (Try.prog.fieldsOf 32)) := by kernel_rfl
  have hb := bytes_beq x.nm y.nm
  have he : (Op.equalIn 10000 32 (.agg #[.string x.nm, .int .i64 x.kd]) (.agg #[.string y.nm, .int .i64 y.kd])).run Try.prog w = .ok (eqC x y) w := by
    rw [show (10000 : Nat) = 9999 + 1 from rfl, run_equalIn_agg w 9999 32 _ _ hS Try.stoodInHeld32]
    simp only [Program.fieldsOf, Try.underlying32]
    go_simp
    unfold eqC
    by_cases h1 : x.nm = y.nm <;> by_cases h2 : x.kd = y.kd <;> simp [h1, h2]
  show Sem.run Try.prog (binOp .neq 32 (.agg #[.string x.nm, .int .i64 x.kd]) (.agg #[.string y.nm, .int .i64 y.kd])) w = _
  generalize eqC x y = r at he ⊢
  have he' : Sem.run Try.prog (Op.equalIn Op.maxDepth 32 (.agg #[.string x.nm, .int .i64 x.kd]) (.agg #[.string y.nm, .int .i64 y.kd])) w = .ok r w := he
  simp [binOp, Op.equal, he']
theorem allEq_iff {α : Type} [Inhabited α] [DecidableEq α] {eq : α → α → Bool} (heq : ∀ x y, eq x y = true ↔ x = y) : ∀ (xs ys : List α), Lib.allEq eq xs ys = decide (xs = ys)
  | [], [] => by simp [Lib.allEq]
  | [], _ :: _ => by simp [Lib.allEq]
  | _ :: _, [] => by simp [Lib.allEq]
  | x :: xs, y :: ys => by
    have := allEq_iff heq xs ys
    by_cases h : eq x y = true
    · have hxy := (heq x y).1 h
      subst hxy
      simp [Lib.allEq, h, this]
    · have hxy : ¬ x = y := fun e => h ((heq x y).2 e)
      simp [Lib.allEq, h, hxy]
set_option maxHeartbeats 400000 in
theorem equalV_any {u v : Value} {r q : Rw} {w : World} (hu : RowAt w u r) (hv : RowAt w v q) :
    Calls Try.prog 67 #[u, v] w fun e w' => e = .returned (.bool (decide (r = q))) ∧ Grew w w' := by
  obtain ⟨p, cap, rfl, hcap, hmax, hx⟩ := hu
  obtain ⟨p', cap', rfl, hcap', hmax', hx'⟩ := hv
  unfold maxLen at hmax hmax'
  by_cases hl : r.length = q.length
  · by_cases hn : r = []
    · subst hn
      have hq : q = [] := List.eq_nil_of_length_eq_zero hl.symm
      subst hq
      go_enter Try.func67, Try.ntmps67
      go_wp2
      refine wp_loop_rounds 1 ?_
      rw [rounds_succ]
      go_wp2
      go_ret
      exact ⟨rfl, Grew.refl _⟩
    · have hn' : q ≠ [] := by intro e; subst e; exact hn (List.eq_nil_of_length_eq_zero hl)
      obtain ⟨b, o, rfl, -, hj⟩ := hx hn
      obtain ⟨b', o', rfl, -, hj'⟩ := hx' hn'
      have h := AnyQ.slices_Equal Try.equalV 11 Try.isAgg44 Try.sizeOf44 Vl.cells vl_len eqL neqV b o r.length cap b' o' q.length cap' r q w (Nat.le_refl _) (Nat.le_refl _) hmax hmax' (fun j h i u hu => hj j _ (get!_some h) i u hu) (fun j h i u hu => hj' j _ (get!_some h) i u hu)
      rw [List.take_length, List.take_length, allEq_iff eqL_iff] at h
      refine Calls.mono (show Calls Try.prog 67 _ _ _ from h) ?_
      rintro e w' ⟨he, n, rfl⟩
      exact ⟨he, (Grew.refl _).drewN n⟩
  · have hne : ((r.length : Int) != (q.length : Int)) = true := by simp; omega
    have hd : decide (r = q) = false := by simp only [decide_eq_false_iff_not]; intro e; subst e; exact hl rfl
    rw [hd]
    clear hx hx' hd
    generalize List.length r = n at *
    generalize List.length q = m at *
    go_enter Try.func67, Try.ntmps67
    go_wp2
    go_ret
    exact ⟨rfl, Grew.refl _⟩
set_option maxHeartbeats 400000 in
theorem equalC_any {u v : Value} {r q : List Cl} {w : World} (hu : ColsAt w u r) (hv : ColsAt w v q) :
    Calls Try.prog 46 #[u, v] w fun e w' => e = .returned (.bool (decide (r = q))) ∧ Below w.heap.size w w' := by
  obtain ⟨p, cap, rfl, hcap, hmax, hx⟩ := hu
  obtain ⟨p', cap', rfl, hcap', hmax', hx'⟩ := hv
  unfold maxLen at hmax hmax'
  by_cases hl : r.length = q.length
  · by_cases hn : r = []
    · subst hn
      have hq : q = [] := List.eq_nil_of_length_eq_zero hl.symm
      subst hq
      go_enter Try.func46, Try.ntmps46
      go_wp2
      refine wp_loop_rounds 1 ?_
      rw [rounds_succ]
      go_wp2
      go_ret
      exact ⟨rfl, Below.refl _ _⟩
    · have hn' : q ≠ [] := by intro e; subst e; exact hn (List.eq_nil_of_length_eq_zero hl)
      obtain ⟨b, o, rfl, -, hj⟩ := hx hn
      obtain ⟨b', o', rfl, -, hj'⟩ := hx' hn'
      have h := AnyQ.slices_Equal Try.equalC 2 Try.isAgg32 Try.sizeOf32 Cl.cells cl_len eqC neqC b o r.length cap b' o' q.length cap' r q w (Nat.le_refl _) (Nat.le_refl _) hmax hmax' (fun j h i u hu => hj j _ (get!_some h) i u hu) (fun j h i u hu => hj' j _ (get!_some h) i u hu)
      rw [List.take_length, List.take_length, allEq_iff eqC_iff] at h
      refine Calls.mono (show Calls Try.prog 46 _ _ _ from h) ?_
      rintro e w' ⟨he, n, rfl⟩
      exact ⟨he, ((Grew.refl _).drewN n).below⟩
  · have hne : ((r.length : Int) != (q.length : Int)) = true := by simp; omega
    have hd : decide (r = q) = false := by simp only [decide_eq_false_iff_not]; intro e; subst e; exact hl rfl
    rw [hd]
    clear hx hx' hd
    generalize List.length r = n at *
    generalize List.length q = m at *
    go_enter Try.func46, Try.ntmps46
    go_wp2
    go_ret
    exact ⟨rfl, Below.refl _ _⟩
theorem rows_ne {rs qs : List Rw} {k : Nat} (h : ¬ rs[k]! = qs[k]!) : ¬ rs = qs := fun e => h (by rw [e])
theorem rows_eq {rs qs : List Rw} (h1 : rs.length = qs.length) (h : ∀ k, k < rs.length → rs[k]! = qs[k]!) : rs = qs := by
  apply List.ext_getElem h1
  intro i hi hi'
  have := h i hi
  rw [List.getElem!_eq_getElem?_getD, List.getElem!_eq_getElem?_getD, List.getElem?_eq_getElem hi, List.getElem?_eq_getElem hi'] at this
  exact this
theorem equalV_is {u v : Value} {r q : Rw} {w : World} {c : Bool} (hu : RowAt w u r) (hv : RowAt w v q) (h : decide (r = q) = c) :
    Calls Try.prog 67 #[u, v] w fun e w' => e = .returned (.bool c) ∧ Grew w w' := by rw [← h]; exact equalV_any hu hv
set_option maxHeartbeats 1000000 in
theorem equalF_any {u v : Value} {rs qs : List Rw} {w : World} (hu : RowsAt w u rs) (hv : RowsAt w v qs) :
    Calls Try.prog 66 #[u, v, .func (.func 67) #[] #[]] w fun e w' => e = .returned (.bool (decide (rs = qs))) ∧ Below w.heap.size w w' := by
  obtain ⟨hs, ⟨p, cap, rfl, hcap, hmax, hx⟩, hh⟩ := hu
  obtain ⟨hs', ⟨p', cap', rfl, hcap', hmax', hx'⟩, hh'⟩ := hv
  unfold maxLen at hmax hmax'
  have eg : ∀ args w, (callFunc 67 args).run Try.prog w = .ok (.enter 67 args) w := enters_of Try.func67 (by kernel_rfl) rfl
  generalize hr : decide (rs = qs) = res
  have HR := hid hr
  have HX := hid hx
  have HX' := hid hx'
  have HH := hid hh
  have HH' := hid hh'
  clear hr hx hx' hh hh'
  generalize hn : hs.length = n at *
  generalize hn' : hs'.length = m at *
  have HN := hid hn
  have HN' := hid hn'
  clear hn hn'
  by_cases hl : n = m
  · subst hl
    go_enter Try.func66, Try.ntmps66
    go_wp2
    go_loopw [17] (fun i wr => ∃ k : Nat, k ≤ n ∧ i = .int .i64 k ∧ Hid (Below w.heap.size w wr) ∧ Hid (∀ j, j < k → rs[j]! = qs[j]!)) (fun i _ => n - (intOf i).toNat)
    case atStart => exact ⟨0, by omega, rfl, Below.refl _ _, fun j h => absurd h (Nat.not_lt_zero _)⟩
    case round =>
      obtain ⟨k, hk, rfl, HB, HA⟩ := hrel
      by_cases hlt : k < n
      · have hkh : k < hs.length := by rw [HN.out]; exact hlt
        have hkr : k < rs.length := by rw [← HH.out.1]; exact hkh
        have hkh' : k < hs'.length := by rw [HN'.out]; exact hlt
        have hkr' : k < qs.length := by rw [← HH'.out.1]; exact hkh'
        obtain ⟨b, o, rfl, -, hj⟩ := HX.out (by intro e; subst e; simp at hkh)
        obtain ⟨b', o', rfl, -, hj'⟩ := HX'.out (by intro e; subst e; simp at hkh')
        have hd := head_cell (fun j x hjx => (hj j x hjx).on HB.out) (get!_some hkh)
        have hd' := head_cell (fun j x hjx => (hj' j x hjx).on HB.out) (get!_some hkh')
        have HRow := hid ((HH.out.2 k _ _ (get!_some hkh) (get!_some hkr)).on HB.out)
        have HRow' := hid ((HH'.out.2 k _ _ (get!_some hkh') (get!_some hkr')).on HB.out)
        generalize hs[k]! = hd0 at hd HRow
        generalize hs'[k]! = hd0' at hd' HRow'
        clear hj hj'
        have HNE := hid (rows_ne (rs := rs) (qs := qs) (k := k))
        have HSTEP : Hid (rs[k]! = qs[k]! → ∀ j, j < k + 1 → rs[j]! = qs[j]!) := fun e j hj => by
          by_cases h : j = k
          · subst h; exact e
          · exact HA.out j (by omega)
        generalize rs[k]! = r0 at HRow HNE HSTEP
        generalize qs[k]! = q0 at HRow' HNE HSTEP
        cases hrb : decide (r0 = q0) with
        | true =>
          go_wp2_with (first | (go_at_fn 67; refine (equalV_is HRow.out HRow'.out hrb).mono ?_; rintro e w2 ⟨rfl, hb2⟩))
          go_roundw
          case rel => exact ⟨k + 1, by omega, by go_num, below_on HB.out hb2.below, HSTEP.out (of_decide_eq_true hrb)⟩
          case measure => simp [intOf]; omega
        | false =>
          go_wp2_with (first | (go_at_fn 67; refine (equalV_is HRow.out HRow'.out hrb).mono ?_; rintro e w2 ⟨rfl, hb2⟩))
          go_ret
          exact ⟨ret_bool ((decide_eq_false (HNE.out (of_decide_eq_false hrb))).symm.trans HR.out), below_on HB.out hb2.below⟩
      · have hks : k = n := by omega
        subst hks
        go_wp2
        go_ret
        exact ⟨ret_bool ((decide_eq_true (rows_eq (by rw [← HH.out.1, ← HH'.out.1, HN.out, HN'.out]) (by rw [← HH.out.1, HN.out]; exact HA.out))).symm.trans HR.out), HB.out⟩
  · have hne : ((n : Int) != (m : Int)) = true := by simp; omega
    go_enter Try.func66, Try.ntmps66
    go_wp2
    go_ret
    refine ⟨ret_bool ((decide_eq_false ?_).symm.trans HR.out), Below.refl _ _⟩
    intro e
    subst e
    apply hl
    rw [← HN.out, ← HN'.out, HH.out.1, HH'.out.1]
theorem equalC_is {u v : Value} {r q : List Cl} {w : World} {c : Bool} (hu : ColsAt w u r) (hv : ColsAt w v q) (h : decide (r = q) = c) :
    Calls Try.prog 46 #[u, v] w fun e w' => e = .returned (.bool c) ∧ Below w.heap.size w w' := by rw [← h]; exact equalC_any hu hv
set_option maxHeartbeats 1000000 in
theorem same_any {u v : Value} {cs ds : List Cl} {rs qs : List Rw} {w : World} (hu : TabAt w u cs rs) (hv : TabAt w v ds qs) :
    Calls Try.prog 32 #[u, v] w fun e w' => e = .returned (.bool (decide (cs = ds ∧ rs = qs))) ∧ Below w.heap.size w w' := by
  obtain ⟨c, r, rfl, hc, hr⟩ := hu
  obtain ⟨c', r', rfl, hc', hr'⟩ := hv
  have HC := hid hc
  have HR := hid hr
  have HC' := hid hc'
  have HR' := hid hr'
  clear hc hr hc' hr'
  have HB : Hid (Below w.heap.size w ((w.alloc (.cells #[c, r] 25)).alloc (.cells #[c', r'] 25))) := ((Below.refl w.heap.size w).alloc (Nat.le_refl _) _).alloc (by simp) _
  have K0 := hid (block_on (alloc_block w (.cells #[c, r] 25)) ((Below.refl _ _).alloc (Nat.le_refl _) (.cells #[c', r'] 25)))
  have K1 : Hid (((w.alloc (.cells #[c, r] 25)).alloc (.cells #[c', r'] 25)).heap[w.heap.size + 1]? = some (.cells #[c', r'] 25 (0, 0))) := by
    have h := alloc_block (w.alloc (.cells #[c, r] 25)) (.cells #[c', r'] 25)
    rw [World.size_alloc] at h
    exact h
  cases hcd : decide (cs = ds) with
  | false =>
    have he : decide (cs = ds ∧ rs = qs) = false := decide_eq_false fun h => of_decide_eq_false hcd h.1
    rw [he]
    go_enter Try.func32, Try.ntmps32
    go_wp2_with (first | (go_at_call 46; refine (equalC_is (HC.out.on HB.out) (HC'.out.on HB.out) hcd).mono ?_; rintro e w1 ⟨rfl, hb1⟩))
    go_ret
    exact ⟨rfl, below_on HB.out hb1⟩
  | true =>
    have he : decide (cs = ds ∧ rs = qs) = decide (rs = qs) := by
      have := of_decide_eq_true hcd
      by_cases h : rs = qs <;> simp [this, h]
    rw [he]
    have HQ := hid (fun W (h : Below w.heap.size w W) => equalF_any (HR.out.on h) (HR'.out.on h))
    generalize decide (rs = qs) = res at *
    go_enter Try.func32, Try.ntmps32
    go_wp2_with (first | (go_at_call 46; refine (equalC_is (HC.out.on HB.out) (HC'.out.on HB.out) hcd).mono ?_; rintro e w1 ⟨rfl, hb1⟩; have HB1 := hid (below_on HB.out hb1); have k0 := block_cell (block_on K0.out hb1); have k1 := block_cell (block_on K1.out hb1); clear hb1) | (go_at_call 66; refine (HQ.out _ HB1.out).mono ?_; rintro e w2 ⟨rfl, hb2⟩))
    go_ret
    exact ⟨rfl, below_on HB1.out hb2⟩
end Go.Proofs.Ytaccindmjaejdaa
