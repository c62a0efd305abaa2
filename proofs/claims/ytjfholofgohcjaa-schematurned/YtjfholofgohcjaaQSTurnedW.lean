/-
  The walk of catchmentlaw05.SchemaTurned.
-/
import Derived.Test.YtjfholofgohcjaaQSFitsW
namespace Go.Proofs.Ytjfholofgohcjaa
open Go.RowKit Go.Sort Go.Shelf

theorem step_callW {ops : Array Oper} {o : Oper} {a : Act} {w : World} {K : Act → World → Prop} {Q : Exit → Act → World → Prop} {E : Prop} {f : FuncId} {v : Value} (hw : Region.wanted o (yielded ops a.tmps) = true) (x : Operand) (t : TypeId)
    (ho : o.op = .call { callee := .value (.func f), args := #[x], argTypes := #[t] }) (hx : a.eval x = v) (hen : ∀ args w, (callFunc f args).run Try.prog w = .ok (.enter f args) w)
    (hc : Calls Try.prog f #[v] w fun e w' => ∃ u, e = .returned u ∧ K (a.put o.dst u) w') : if Region.wanted o (yielded ops a.tmps) = true then Oper.wp Try.prog o a w K Q else E := by
  rw [if_pos hw]
  unfold Oper.wp
  have hr : (execOp a.eval o).run Try.prog w = .ok (.enter f #[v]) w := by
    simp [execOp, ho, resolve, invoke, hen, go_sem]
    rw [← hx]
    cases x <;> simp [Act.eval]
  rw [hr, Oper.upon_enter]
  refine hc.mono ?_
  rintro e w' ⟨u, rfl, hk⟩
  exact hk
theorem sl_get5 {α : Type} {Q : Nat → Prop} {enc : α → List Value} {k : Nat} {w : World} {p : Option Addr} {n cap : Nat} {xs : List α} (h : SlAt Q enc k w (.slice p n cap) xs) (hne : xs ≠ []) : ∃ b o, p = some ⟨b, o, none⟩ ∧ ∀ (j : Nat) x, xs[j]? = some x → CellsAt w b (o + j * k) (enc x) := by
  obtain ⟨p', c', e, -, -, hx⟩ := h
  cases e
  obtain ⟨b, o, hp, -, hj⟩ := hx hne
  exact ⟨b, o, hp, hj⟩
theorem HeadsS.rev {w : World} {hs : List Sh} {l : List Sc} (h : HeadsS w hs l) : HeadsS w hs.reverse l.reverse := by
  refine ⟨by rw [List.length_reverse, List.length_reverse, h.1], fun j x s h1 h2 => ?_⟩
  have hj : j < hs.length := by have := (List.getElem?_eq_some_iff.1 h1).1; rwa [List.length_reverse] at this
  rw [List.getElem?_reverse hj] at h1
  rw [List.getElem?_reverse (by rw [← h.1]; exact hj), ← h.1] at h2
  exact h.2 _ x s h1 h2
theorem rev_step {hs : List Sh} {j : Nat} (h : j < hs.length) : (hs.drop j).reverse = (hs.drop (j + 1)).reverse ++ [hs[j]!] := by
  rw [List.drop_eq_getElem_cons h, List.reverse_cons, getElem!_pos hs j h]
theorem rev_at {l : List Sc} (h : checkS l = 0) {i : Nat} (hi : i < l.length) : ∃ j : Nat, atS l.reverse l[i]!.nm = (j : Int) ∧ l.reverse[j]! = l[i]! := by
  obtain ⟨_, _, h3⟩ := check_parts0 h
  have hn : (l.reverse.map Sc.nm).Nodup := by rw [List.map_reverse]; exact nodup_rev.2 h3
  have hj : l.length - 1 - i < l.reverse.length := by rw [List.length_reverse]; omega
  have e : l.reverse[l.length - 1 - i] = l[i] := by
    rw [List.getElem_reverse]
    congr 1
    omega
  refine ⟨l.length - 1 - i, ?_, by rw [getElem!_pos l.reverse _ hj, e, getElem!_pos l i hi]⟩
  have := atS_get hn hj
  rw [e] at this
  rw [getElem!_pos l i hi, this]
theorem sh_one {w : World} {h : Sh} {s : Sc} (x : ShIs w h s) : ∀ y ∈ [h], ∀ c ∈ y.cells, c.oneCell' = true := by
  obtain ⟨pk, nk, ck, pv, nv, cv, rfl⟩ := sh_form x
  intro y hy c hc
  rw [List.mem_singleton] at hy
  subst hy
  simp [Sh.cells] at hc
  rcases hc with rfl | rfl | rfl <;> rfl
theorem find_rev {mv : Value} {l : List Sc} {w : World} {s : Sc} {i : Nat} (hm : SchsAt w mv l.reverse) (h : checkS l = 0) (hi : i < l.length) (hs : l[i]! = s) : Calls Try.prog 31 #[mv, .string s.nm] w (FoundAt w s) := by
  obtain ⟨j, h1, h2⟩ := rev_at h hi
  rw [hs] at h1 h2
  have := sfind_some hm h1
  rwa [h2] at this
theorem sameS_self5 (s : Sc) : sameS s s = true := by simp [sameS]
theorem wrap_small {x : Int} (h : 0 ≤ x) (h2 : x ≤ 9000000) : IntKind.i64.wrap x = x := by
  unfold IntKind.wrap
  simp [IntKind.signed, IntKind.bits]
  split <;> omega
theorem cols_len (s : Sc) : (colsS s).length = 1 + s.ks.length + s.vs.length := by simp [colsS]; omega
theorem scols_n {v : Value} {s : Sc} {w : World} (hv : ScAt w v s) (hl : s.ks.length + s.vs.length ≤ 3000000) {n : Nat} (hn : 1 + s.ks.length + s.vs.length = n) : Calls Try.prog 35 #[v] w fun e w' => ∃ p c, e = .returned (.slice p n c) ∧ Below w.heap.size w w' :=
  (scols_any hv hl).mono fun _ _ ⟨_, he, ⟨p, c, hu, _⟩, hb⟩ => ⟨p, c, by rw [he, hu, cols_len, hn], hb⟩
set_option maxRecDepth 100000 in
set_option maxHeartbeats 4000000 in
theorem schemaTurned_any {v : Value} {l : List Sc} {w : World} (hv : SchsAt w v l) :
    Calls Try.prog 11 #[v] w fun e w' => e = .returned (.bool true) ∧ Below w.heap.size w w' := by
  have HV := hid hv
  obtain ⟨hds, ⟨q, cap, rfl, ⟨hcap, -⟩, hmax, -⟩, -⟩ := hv
  unfold maxLen at hmax
  generalize hds.length = n at *
  have key : ∃ (k : Nat) (l' : List Sc), Hid (SchsAt w (.slice q k cap) l') ∧ k ≤ 20 ∧ ((20 < n ∧ k = 20) ∨ (¬ 20 < n ∧ k = n)) := by
    by_cases hn : 20 < n
    · exact ⟨20, l.take 20, HV.out.take 20 (by omega), by omega, .inl ⟨hn, rfl⟩⟩
    · exact ⟨n, l, HV.out, by omega, .inr ⟨hn, rfl⟩⟩
  obtain ⟨k, l', HV', hk20, hcase⟩ := key
  clear HV
  have hv' := HV'.out
  obtain ⟨hs, hsl, hh⟩ := hv'
  have HSL := hid hsl
  have HH := hid hh
  have hkl : k = hs.length := by obtain ⟨_, _, e, _⟩ := hsl; cases e; rfl
  have HKL := hid hkl
  have HLL := hid hh.1
  clear hsl hh hkl
  have HR := hid (check_reverse l')
  rcases hcase with ⟨hn, rfl⟩ | ⟨hn, rfl⟩
  · have g : (20 : Int) < (n : Int) := by omega
    have hle : hs.length ≤ 20 := by rw [← HKL.out]; omega
    go_enter Try.func11, Try.ntmps11
    go_wp2_with (first
      | (go_at_call 30; refine shown5_any.mono ?_; rintro e w1 ⟨rfl, hb1⟩; have HB1 := hid hb1; clear hb1))
    have HO0 := hid (Own.made Sh.cells 3 56 w1.heap.size w1 (Nat.le_refl _))
    have HB2 := hid ((Below.refl w1.heap.size w1).alloc (Nat.le_refl _) (.cells #[] 56))
    generalize (w1.alloc (.cells #[] 56)) = W2 at *
    go_loopw [4, 5] (fun m i wr => ∃ j : Nat, j ≤ 20 ∧ i = .int .i64 ((j : Int) - 1) ∧ Hid (Below w1.heap.size w1 wr) ∧ Hid (Own Sh.cells 3 56 w1.heap.size wr m (hs.drop j).reverse)) (fun _ i _ => (intOf i + 1).toNat)
    case atStart => exact ⟨20, by omega, by go_num, HB2.out, by rw [List.drop_eq_nil_of_le (by rw [← HKL.out]; exact Nat.le_refl _)]; exact HO0.out⟩
    case round =>
      obtain ⟨j, hj, rfl, HB, HO⟩ := hrel
      cases j with
      | zero =>
        obtain ⟨w0, rfl⟩ : ∃ x, x = wr := ⟨wr, rfl⟩
        have hO := HO.out
        rw [List.drop_zero] at hO
        have HW := hid (HB1.out.trans (HB.out.mono HB1.out.size))
        have HMV : Hid (SchsAt w0 u4 l'.reverse) := ⟨hs.reverse, (Own.sl hO sh_len (small3 (by rw [List.length_reverse]; omega))).imp (fun _ _ => trivial), HH.out.rev.on HW.out⟩
        clear hO HO
        generalize hz : checkS l' = z
        have HZ := hid hz
        have HZR : Hid (checkS l'.reverse = z) := HR.out.trans hz
        have M1 : Hid True := trivial
        by_cases hz0 : z = 0
        · subst hz0
          have HZ0 := hid hz
          clear hz
          go_wp2_with (first
            | (go_at_call 39; have FIRST := M1; refine (scheck_is (HV'.out.on HW.out) HZ.out).mono ?_; rintro e w3 ⟨rfl, hb3⟩; have HB3 := hid hb3; clear hb3 M1 FIRST)
            | (go_at_call 39; refine (scheck_is (HMV.out.on HB3.out) HZR.out).mono ?_; rintro e w4 ⟨rfl, hb4⟩; have HB4 := hid (below_on HB3.out hb4); clear hb4))
          go_loopw [6] (fun i w5 => ∃ i0 : Nat, i0 ≤ 20 ∧ i = .int .i64 i0 ∧ Hid (Below w0.heap.size w0 w5)) (fun i _ => 20 - (intOf i).toNat)
          case atStart => exact ⟨0, by omega, rfl, HB4.out⟩
          case round =>
            obtain ⟨i0, hi, rfl, HB5⟩ := hrel
            by_cases hlt : i0 < 20
            · have hih : i0 < hs.length := by rw [← HKL.out]; exact hlt
              have hil : i0 < l'.length := by rw [← HLL.out]; exact hih
              obtain ⟨b, o, rfl, hcell⟩ := sl_get5 HSL.out (by intro e; rw [e] at hih; simp at hih)
              have hsi := HH.out.2 i0 _ _ (get!_some hih) (get!_some hil)
              have HCE := hid (hcell i0 _ (get!_some hih))
              generalize hs[i0]! = hd at HCE hsi
              have HFR : Hid (∀ x, SchsAt x u4 l'.reverse → Calls Try.prog 31 #[u4, .string l'[i0]!.nm] x (FoundAt x l'[i0]!)) := fun x hx => find_rev hx HZ0.out hil rfl
              have HMY : Hid (l'[i0]!.ks.length + l'[i0]!.vs.length ≤ 3000000) := by
                have h1 := (check_parts0 HZ0.out).2.1 _ (List.getElem_mem hil)
                rw [← getElem!_pos l' i0 hil] at h1
                simp only [mayB, Bool.and_eq_true] at h1
                have a1 := kinds_len h1.2.1
                have a2 := kinds_len h1.2.2.1
                show _ ≤ _
                omega
              generalize l'[i0]! = s at hsi HFR HMY
              obtain ⟨pk, nk, ck, pv, nv, cv, rfl⟩ := sh_form hsi
              have HSI := hid hsi
              have HCELL : Hid (∀ x, Below w0.heap.size w0 x → ShCells x b (o + i0 * 3) ⟨s.nm, .slice pk nk ck, .slice pv nv cv⟩) := fun x hx => sh_cells (HCE.out.on (below_on HW.out hx))
              clear hsi hcell HCE
              go_wp2_with (first
                | (go_at_call 39; refine (scheck_is (HV'.out.on (below_on HW.out HB5.out)) HZ.out).mono ?_; rintro e w6 ⟨rfl, hb6⟩; have HB6 := hid (below_on HB5.out hb6); obtain ⟨c0, c1, c2⟩ := HCELL.out _ HB6.out; dsimp only at c0 c1 c2; clear hb6)
                | (go_at_call 31; refine (HFR.out _ (HMV.out.on HB6.out)).mono ?_; rintro e w7 ⟨ak, ak2, ak3, av, av2, av3, rfl, g1, g2, hb7⟩; have HB7 := hid ((below_on HB6.out hb7).alloc (below_on HB6.out hb7).size (.cells #[.string s.nm, .slice ak ak2 ak3, .slice av av2 av3] 56)); have K7 := hid (alloc_block w7 (.cells #[.string s.nm, .slice ak ak2 ak3, .slice av av2 av3] 56)); have G1 := hid (ColsAt.on g1 ((Below.refl _ _).alloc (Nat.le_refl _) (.cells #[.string s.nm, .slice ak ak2 ak3, .slice av av2 av3] 56))); have G2 := hid (ColsAt.on g2 ((Below.refl _ _).alloc (Nat.le_refl _) (.cells #[.string s.nm, .slice ak ak2 ak3, .slice av av2 av3] 56))); clear g1 g2 hb7 c0 c1 c2))
              generalize w7.heap.size = BX at *
              generalize (w7.alloc (.cells #[.string s.nm, .slice ak ak2 ak3, .slice av av2 av3] 56)) = W7 at *
              obtain ⟨c0, c1, c2⟩ := HCELL.out _ HB7.out
              dsimp only at c0 c1 c2
              have e0 := regrown_cell c0
              have e1 := regrown_cell c1
              have e2 := regrown_cell c2
              clear c0 c1 c2
              have kk : ∀ d os i, (grow (redrawn W7 d) os).cell? ⟨BX, i, none⟩ = (#[.string s.nm, .slice ak ak2 ak3, .slice av av2 av3] : Array Value)[i]? := fun d os i => block_cell (block_on K7.out (below_regrown W7 d os)) i
              have HU1 : ∀ d os, Hid (ScAt (grow (redrawn W7 d) os) (.agg #[.string s.nm, .slice ak ak2 ak3, .slice av av2 av3]) s) := fun d os => ⟨_, _, rfl, ColsAt.on G1.out (below_regrown W7 d os), ColsAt.on G2.out (below_regrown W7 d os)⟩
              have HU2 : ∀ d os, Hid (ScAt (grow (redrawn W7 d) os) (.agg #[.string s.nm, .slice pk nk ck, .slice pv nv cv]) s) := fun d os => ⟨_, _, rfl, (HSI.out.ks.on (below_on HW.out HB7.out)).on (below_regrown W7 d os), (HSI.out.vs.on (below_on HW.out HB7.out)).on (below_regrown W7 d os)⟩
              refine wp_region_quiet_below (by kernel_rfl) (by kernel_rfl) ?_
              repeat (go_big_quiet_step (first | (go_at_call 33; exact Calls.regrown_of (same5_is (HU1 _ _).out (HU2 _ _).out (sameS_self5 s)))))
              refine wpQuiet_nil ?_
              intro _ hw'
              obtain ⟨⟨dq, osq⟩, hw''⟩ := hw'
              subst hw''
              have HBQ := hid (below_regrown W7 dq osq)
              generalize grow (redrawn W7 dq) osq = W8 at *
              have K8 := hid (block_on K7.out HBQ.out)
              have HB8 := hid (below_on HB7.out HBQ.out)
              have G1' := hid (ColsAt.on G1.out HBQ.out)
              have G2' := hid (ColsAt.on G2.out HBQ.out)
              have hk1 : ak2 = s.ks.length := by obtain ⟨_, _, e, _⟩ := G1.out; cases e; rfl
              have hk2 : av2 = s.vs.length := by obtain ⟨_, _, e, _⟩ := G2.out; cases e; rfl
              have HK12 : Hid (1 + s.ks.length + s.vs.length = 1 + ak2 + av2) := by show _ = _; rw [hk1, hk2]
              have HLA : Hid (ak2 ≤ 3000000 ∧ av2 ≤ 3000000) := by have := HMY.out; show _ ∧ _; omega
              clear hk1 hk2 kk HU1 HU2 e0 e1 e2
              have SC8 : Hid (ScAt W8 (.agg #[.string s.nm, .slice ak ak2 ak3, .slice av av2 av3]) s) := ⟨_, _, rfl, G1'.out, G2'.out⟩
              have eg1 : ∀ args w, (callFunc 35 args).run Try.prog w = .ok (.enter 35 args) w := enters_of Try.func35 (by kernel_rfl) rfl
              have EG1 := hid eg1
              clear eg1
              go_wp2_with fail
              have hS0 : B3 BX (.string s.nm) (.slice ak ak2 ak3) (.slice av av2 av3) W8 := ⟨block_cell K8.out 0, block_cell K8.out 1, block_cell K8.out 2⟩
              have HDR : Hid (Below W8.heap.size W8 W8.drew) := (Below.refl _ _).drew
              have hsum : ((1 + ak2 + av2 : Nat) : Int) = 1 + (ak2 : Int) + (av2 : Int) := by omega
              have hcmp : ((1 : Int) + (ak2 : Int) + (av2 : Int) != IntKind.i64.wrap (IntKind.i64.wrap (1 + (ak2 : Int)) + (av2 : Int))) = false := by
                have hla := HLA.out
                rw [wrap_small (x := 1 + (ak2 : Int)) (by omega) (by omega), wrap_small (by omega) (by omega)]
                simp
              have M2 : Hid True := trivial
              go_region_held3 (B3 BX (.string s.nm) (.slice ak ak2 ak3) (.slice av av2 av3)) (((repeat (with_reducible refine b3D ?_)); (with_reducible assumption)))
                (first
                | (have FIRST := M2; refine step_callW (v := .agg #[.string s.nm, .slice ak ak2 ak3, .slice av av2 av3]) (by rfl) (.tmp 70) 56 rfl (by simp [Act.eval]) EG1.out ?_; refine (scols_n (SC8.out.on HDR.out) HMY.out HK12.out).mono ?_; rintro e w9 ⟨p9, c9, rfl, hb9⟩; refine ⟨_, rfl, ?_⟩; have S9 : Hid (Below W8.heap.size W8 w9) := HDR.out.trans hb9; have hS9 : B3 BX (.string s.nm) (.slice ak ak2 ak3) (.slice av av2 av3) w9 := ⟨block_cell (block_on K8.out S9.out) 0, block_cell (block_on K8.out S9.out) 1, block_cell (block_on K8.out S9.out) 2⟩; clear hb9 FIRST M2 hS0))
              go_wp2_with fail
              go_roundw
              case rel => exact ⟨i0 + 1, by omega, by go_num, below_on HB8.out S9.out⟩
              case measure => simp [intOf]; omega
            · have hks : i0 = 20 := by omega
              subst hks
              go_wp2_with fail
              go_ret
              exact ⟨rfl, below_on HW.out HB5.out⟩
        · have hzz : (z == 0) = false := by simpa using hz0
          clear hz hz0
          go_wp2_with (first
            | (go_at_call 39; have FIRST := M1; refine (scheck_is (HV'.out.on HW.out) HZ.out).mono ?_; rintro e w3 ⟨rfl, hb3⟩; have HB3 := hid hb3; clear hb3 M1 FIRST)
            | (go_at_call 39; refine (scheck_is (HMV.out.on HB3.out) HZR.out).mono ?_; rintro e w4 ⟨rfl, hb4⟩; have HB4 := hid (below_on HB3.out hb4); clear hb4))
          go_loopw [6] (fun i w5 => i = .int .i64 0 ∧ Hid (Below w0.heap.size w0 w5)) (fun i _ => 0)
          case atStart => exact ⟨rfl, HB4.out⟩
          case round =>
            obtain ⟨rfl, HB5⟩ := hrel
            by_cases hlt : 0 < 20
            · go_wp2_with (go_at_call 39; refine (scheck_is (HV'.out.on (below_on HW.out HB5.out)) HZ.out).mono ?_; rintro e w6 ⟨rfl, hb6⟩)
              go_ret
              exact ⟨rfl, below_on (below_on HW.out HB5.out) hb6⟩
            · have hks : 20 = 0 := by omega
              go_wp2_with fail
              go_ret
              exact ⟨rfl, below_on HW.out HB5.out⟩
      | succ j =>
        have hjh : j < hs.length := by rw [← HKL.out]; omega
        have hjl : j < l'.length := by rw [← HLL.out]; exact hjh
        obtain ⟨b, o, rfl, hcell⟩ := sl_get5 HSL.out (by intro e; rw [e] at hjh; simp at hjh)
        obtain ⟨c0, c1, c2⟩ := sh_cells ((hcell j _ (get!_some hjh)).on (HB1.out.trans (HB.out.mono HB1.out.size)))
        have hsi := HH.out.2 j _ _ (get!_some hjh) (get!_some hjl)
        have H1 := hid (sh_one hsi)
        have HST := hid (rev_step hjh)
        generalize hs[j]! = hd at c0 c1 c2 hsi H1 HST
        generalize l'[j]! = s0 at hsi
        obtain ⟨pk, nk, ck, pv, nv, cv, rfl⟩ := sh_form hsi
        dsimp only at c0 c1 c2
        clear hsi hcell
        obtain ⟨pm, cm, hum, -⟩ := Own.sl HO.out sh_len (small3 (by simp; omega))
        generalize List.length (List.drop (j + 1) hs).reverse = nm at hum
        subst hum
        go_wp2_with (at_builtin; refine app3_any (ys := [⟨s0.nm, .slice pk nk ck, .slice pv nv cv⟩]) rfl H1.out _ _ rfl rfl ((HO.out).on ((Below.refl _ _).alloc (Nat.le_refl _) _)) rfl (oneH_sl (alloc_block _ _)) (by simp) (by simp; omega) (by have := HB.out.size; rw [World.size_alloc]; omega) ?_; intro v3 w3 hown3 hb3)
        go_roundw
        case rel => exact ⟨j, by omega, by go_num, (HB.out.alloc HB.out.size _).trans hb3, by rw [HST.out]; exact hown3⟩
        case measure => simp [intOf]
  · have g : ¬ (20 : Int) < (k : Int) := by omega
    have hle : hs.length ≤ 20 := by rw [← HKL.out]; omega
    go_enter Try.func11, Try.ntmps11
    go_wp2_with (first
      | (go_at_call 30; refine shown5_any.mono ?_; rintro e w1 ⟨rfl, hb1⟩; have HB1 := hid hb1; clear hb1))
    have HO0 := hid (Own.made Sh.cells 3 56 w1.heap.size w1 (Nat.le_refl _))
    have HB2 := hid ((Below.refl w1.heap.size w1).alloc (Nat.le_refl _) (.cells #[] 56))
    generalize (w1.alloc (.cells #[] 56)) = W2 at *
    go_loopw [4, 5] (fun m i wr => ∃ j : Nat, j ≤ k ∧ i = .int .i64 ((j : Int) - 1) ∧ Hid (Below w1.heap.size w1 wr) ∧ Hid (Own Sh.cells 3 56 w1.heap.size wr m (hs.drop j).reverse)) (fun _ i _ => (intOf i + 1).toNat)
    case atStart => exact ⟨k, by omega, by go_num, HB2.out, by rw [List.drop_eq_nil_of_le (by rw [← HKL.out]; exact Nat.le_refl _)]; exact HO0.out⟩
    case round =>
      obtain ⟨j, hj, rfl, HB, HO⟩ := hrel
      cases j with
      | zero =>
        obtain ⟨w0, rfl⟩ : ∃ x, x = wr := ⟨wr, rfl⟩
        have hO := HO.out
        rw [List.drop_zero] at hO
        have HW := hid (HB1.out.trans (HB.out.mono HB1.out.size))
        have HMV : Hid (SchsAt w0 u4 l'.reverse) := ⟨hs.reverse, (Own.sl hO sh_len (small3 (by rw [List.length_reverse]; omega))).imp (fun _ _ => trivial), HH.out.rev.on HW.out⟩
        clear hO HO
        generalize hz : checkS l' = z
        have HZ := hid hz
        have HZR : Hid (checkS l'.reverse = z) := HR.out.trans hz
        have M1 : Hid True := trivial
        by_cases hz0 : z = 0
        · subst hz0
          have HZ0 := hid hz
          clear hz
          go_wp2_with (first
            | (go_at_call 39; have FIRST := M1; refine (scheck_is (HV'.out.on HW.out) HZ.out).mono ?_; rintro e w3 ⟨rfl, hb3⟩; have HB3 := hid hb3; clear hb3 M1 FIRST)
            | (go_at_call 39; refine (scheck_is (HMV.out.on HB3.out) HZR.out).mono ?_; rintro e w4 ⟨rfl, hb4⟩; have HB4 := hid (below_on HB3.out hb4); clear hb4))
          go_loopw [6] (fun i w5 => ∃ i0 : Nat, i0 ≤ k ∧ i = .int .i64 i0 ∧ Hid (Below w0.heap.size w0 w5)) (fun i _ => k - (intOf i).toNat)
          case atStart => exact ⟨0, by omega, rfl, HB4.out⟩
          case round =>
            obtain ⟨i0, hi, rfl, HB5⟩ := hrel
            by_cases hlt : i0 < k
            · have hih : i0 < hs.length := by rw [← HKL.out]; exact hlt
              have hil : i0 < l'.length := by rw [← HLL.out]; exact hih
              obtain ⟨b, o, rfl, hcell⟩ := sl_get5 HSL.out (by intro e; rw [e] at hih; simp at hih)
              have hsi := HH.out.2 i0 _ _ (get!_some hih) (get!_some hil)
              have HCE := hid (hcell i0 _ (get!_some hih))
              generalize hs[i0]! = hd at HCE hsi
              have HFR : Hid (∀ x, SchsAt x u4 l'.reverse → Calls Try.prog 31 #[u4, .string l'[i0]!.nm] x (FoundAt x l'[i0]!)) := fun x hx => find_rev hx HZ0.out hil rfl
              have HMY : Hid (l'[i0]!.ks.length + l'[i0]!.vs.length ≤ 3000000) := by
                have h1 := (check_parts0 HZ0.out).2.1 _ (List.getElem_mem hil)
                rw [← getElem!_pos l' i0 hil] at h1
                simp only [mayB, Bool.and_eq_true] at h1
                have a1 := kinds_len h1.2.1
                have a2 := kinds_len h1.2.2.1
                show _ ≤ _
                omega
              generalize l'[i0]! = s at hsi HFR HMY
              obtain ⟨pk, nk, ck, pv, nv, cv, rfl⟩ := sh_form hsi
              have HSI := hid hsi
              have HCELL : Hid (∀ x, Below w0.heap.size w0 x → ShCells x b (o + i0 * 3) ⟨s.nm, .slice pk nk ck, .slice pv nv cv⟩) := fun x hx => sh_cells (HCE.out.on (below_on HW.out hx))
              clear hsi hcell HCE
              go_wp2_with (first
                | (go_at_call 39; refine (scheck_is (HV'.out.on (below_on HW.out HB5.out)) HZ.out).mono ?_; rintro e w6 ⟨rfl, hb6⟩; have HB6 := hid (below_on HB5.out hb6); obtain ⟨c0, c1, c2⟩ := HCELL.out _ HB6.out; dsimp only at c0 c1 c2; clear hb6)
                | (go_at_call 31; refine (HFR.out _ (HMV.out.on HB6.out)).mono ?_; rintro e w7 ⟨ak, ak2, ak3, av, av2, av3, rfl, g1, g2, hb7⟩; have HB7 := hid ((below_on HB6.out hb7).alloc (below_on HB6.out hb7).size (.cells #[.string s.nm, .slice ak ak2 ak3, .slice av av2 av3] 56)); have K7 := hid (alloc_block w7 (.cells #[.string s.nm, .slice ak ak2 ak3, .slice av av2 av3] 56)); have G1 := hid (ColsAt.on g1 ((Below.refl _ _).alloc (Nat.le_refl _) (.cells #[.string s.nm, .slice ak ak2 ak3, .slice av av2 av3] 56))); have G2 := hid (ColsAt.on g2 ((Below.refl _ _).alloc (Nat.le_refl _) (.cells #[.string s.nm, .slice ak ak2 ak3, .slice av av2 av3] 56))); clear g1 g2 hb7 c0 c1 c2))
              generalize w7.heap.size = BX at *
              generalize (w7.alloc (.cells #[.string s.nm, .slice ak ak2 ak3, .slice av av2 av3] 56)) = W7 at *
              obtain ⟨c0, c1, c2⟩ := HCELL.out _ HB7.out
              dsimp only at c0 c1 c2
              have e0 := regrown_cell c0
              have e1 := regrown_cell c1
              have e2 := regrown_cell c2
              clear c0 c1 c2
              have kk : ∀ d os i, (grow (redrawn W7 d) os).cell? ⟨BX, i, none⟩ = (#[.string s.nm, .slice ak ak2 ak3, .slice av av2 av3] : Array Value)[i]? := fun d os i => block_cell (block_on K7.out (below_regrown W7 d os)) i
              have HU1 : ∀ d os, Hid (ScAt (grow (redrawn W7 d) os) (.agg #[.string s.nm, .slice ak ak2 ak3, .slice av av2 av3]) s) := fun d os => ⟨_, _, rfl, ColsAt.on G1.out (below_regrown W7 d os), ColsAt.on G2.out (below_regrown W7 d os)⟩
              have HU2 : ∀ d os, Hid (ScAt (grow (redrawn W7 d) os) (.agg #[.string s.nm, .slice pk nk ck, .slice pv nv cv]) s) := fun d os => ⟨_, _, rfl, (HSI.out.ks.on (below_on HW.out HB7.out)).on (below_regrown W7 d os), (HSI.out.vs.on (below_on HW.out HB7.out)).on (below_regrown W7 d os)⟩
              refine wp_region_quiet_below (by kernel_rfl) (by kernel_rfl) ?_
              repeat (go_big_quiet_step (first | (go_at_call 33; exact Calls.regrown_of (same5_is (HU1 _ _).out (HU2 _ _).out (sameS_self5 s)))))
              refine wpQuiet_nil ?_
              intro _ hw'
              obtain ⟨⟨dq, osq⟩, hw''⟩ := hw'
              subst hw''
              have HBQ := hid (below_regrown W7 dq osq)
              generalize grow (redrawn W7 dq) osq = W8 at *
              have K8 := hid (block_on K7.out HBQ.out)
              have HB8 := hid (below_on HB7.out HBQ.out)
              have G1' := hid (ColsAt.on G1.out HBQ.out)
              have G2' := hid (ColsAt.on G2.out HBQ.out)
              have hk1 : ak2 = s.ks.length := by obtain ⟨_, _, e, _⟩ := G1.out; cases e; rfl
              have hk2 : av2 = s.vs.length := by obtain ⟨_, _, e, _⟩ := G2.out; cases e; rfl
              have HK12 : Hid (1 + s.ks.length + s.vs.length = 1 + ak2 + av2) := by show _ = _; rw [hk1, hk2]
              have HLA : Hid (ak2 ≤ 3000000 ∧ av2 ≤ 3000000) := by have := HMY.out; show _ ∧ _; omega
              clear hk1 hk2 kk HU1 HU2 e0 e1 e2
              have SC8 : Hid (ScAt W8 (.agg #[.string s.nm, .slice ak ak2 ak3, .slice av av2 av3]) s) := ⟨_, _, rfl, G1'.out, G2'.out⟩
              have eg1 : ∀ args w, (callFunc 35 args).run Try.prog w = .ok (.enter 35 args) w := enters_of Try.func35 (by kernel_rfl) rfl
              have EG1 := hid eg1
              clear eg1
              go_wp2_with fail
              have hS0 : B3 BX (.string s.nm) (.slice ak ak2 ak3) (.slice av av2 av3) W8 := ⟨block_cell K8.out 0, block_cell K8.out 1, block_cell K8.out 2⟩
              have HDR : Hid (Below W8.heap.size W8 W8.drew) := (Below.refl _ _).drew
              have hsum : ((1 + ak2 + av2 : Nat) : Int) = 1 + (ak2 : Int) + (av2 : Int) := by omega
              have hcmp : ((1 : Int) + (ak2 : Int) + (av2 : Int) != IntKind.i64.wrap (IntKind.i64.wrap (1 + (ak2 : Int)) + (av2 : Int))) = false := by
                have hla := HLA.out
                rw [wrap_small (x := 1 + (ak2 : Int)) (by omega) (by omega), wrap_small (by omega) (by omega)]
                simp
              have M2 : Hid True := trivial
              go_region_held3 (B3 BX (.string s.nm) (.slice ak ak2 ak3) (.slice av av2 av3)) (((repeat (with_reducible refine b3D ?_)); (with_reducible assumption)))
                (first
                | (have FIRST := M2; refine step_callW (v := .agg #[.string s.nm, .slice ak ak2 ak3, .slice av av2 av3]) (by rfl) (.tmp 70) 56 rfl (by simp [Act.eval]) EG1.out ?_; refine (scols_n (SC8.out.on HDR.out) HMY.out HK12.out).mono ?_; rintro e w9 ⟨p9, c9, rfl, hb9⟩; refine ⟨_, rfl, ?_⟩; have S9 : Hid (Below W8.heap.size W8 w9) := HDR.out.trans hb9; have hS9 : B3 BX (.string s.nm) (.slice ak ak2 ak3) (.slice av av2 av3) w9 := ⟨block_cell (block_on K8.out S9.out) 0, block_cell (block_on K8.out S9.out) 1, block_cell (block_on K8.out S9.out) 2⟩; clear hb9 FIRST M2 hS0))
              go_wp2_with fail
              go_roundw
              case rel => exact ⟨i0 + 1, by omega, by go_num, below_on HB8.out S9.out⟩
              case measure => simp [intOf]; omega
            · have hks : i0 = k := by omega
              subst hks
              go_wp2_with fail
              go_ret
              exact ⟨rfl, below_on HW.out HB5.out⟩
        · have hzz : (z == 0) = false := by simpa using hz0
          clear hz hz0
          go_wp2_with (first
            | (go_at_call 39; have FIRST := M1; refine (scheck_is (HV'.out.on HW.out) HZ.out).mono ?_; rintro e w3 ⟨rfl, hb3⟩; have HB3 := hid hb3; clear hb3 M1 FIRST)
            | (go_at_call 39; refine (scheck_is (HMV.out.on HB3.out) HZR.out).mono ?_; rintro e w4 ⟨rfl, hb4⟩; have HB4 := hid (below_on HB3.out hb4); clear hb4))
          go_loopw [6] (fun i w5 => i = .int .i64 0 ∧ Hid (Below w0.heap.size w0 w5)) (fun i _ => 0)
          case atStart => exact ⟨rfl, HB4.out⟩
          case round =>
            obtain ⟨rfl, HB5⟩ := hrel
            by_cases hlt : 0 < k
            · go_wp2_with (go_at_call 39; refine (scheck_is (HV'.out.on (below_on HW.out HB5.out)) HZ.out).mono ?_; rintro e w6 ⟨rfl, hb6⟩)
              go_ret
              exact ⟨rfl, below_on (below_on HW.out HB5.out) hb6⟩
            · have hks : k = 0 := by omega
              go_wp2_with fail
              go_ret
              exact ⟨rfl, below_on HW.out HB5.out⟩
      | succ j =>
        have hjh : j < hs.length := by rw [← HKL.out]; omega
        have hjl : j < l'.length := by rw [← HLL.out]; exact hjh
        obtain ⟨b, o, rfl, hcell⟩ := sl_get5 HSL.out (by intro e; rw [e] at hjh; simp at hjh)
        obtain ⟨c0, c1, c2⟩ := sh_cells ((hcell j _ (get!_some hjh)).on (HB1.out.trans (HB.out.mono HB1.out.size)))
        have hsi := HH.out.2 j _ _ (get!_some hjh) (get!_some hjl)
        have H1 := hid (sh_one hsi)
        have HST := hid (rev_step hjh)
        generalize hs[j]! = hd at c0 c1 c2 hsi H1 HST
        generalize l'[j]! = s0 at hsi
        obtain ⟨pk, nk, ck, pv, nv, cv, rfl⟩ := sh_form hsi
        dsimp only at c0 c1 c2
        clear hsi hcell
        obtain ⟨pm, cm, hum, -⟩ := Own.sl HO.out sh_len (small3 (by simp; omega))
        generalize List.length (List.drop (j + 1) hs).reverse = nm at hum
        subst hum
        go_wp2_with (at_builtin; refine app3_any (ys := [⟨s0.nm, .slice pk nk ck, .slice pv nv cv⟩]) rfl H1.out _ _ rfl rfl ((HO.out).on ((Below.refl _ _).alloc (Nat.le_refl _) _)) rfl (oneH_sl (alloc_block _ _)) (by simp) (by simp; omega) (by have := HB.out.size; rw [World.size_alloc]; omega) ?_; intro v3 w3 hown3 hb3)
        go_roundw
        case rel => exact ⟨j, by omega, by go_num, (HB.out.alloc HB.out.size _).trans hb3, by rw [HST.out]; exact hown3⟩
        case measure => simp [intOf]
end Go.Proofs.Ytjfholofgohcjaa
