/-
  What the reference's Keep returns, for every table and all names.
-/
import Derived.Test.YtoadamimfhjoiaaKeepMath
import Derived.Test.YtoadamimfhjoiaaRUnionOk
import Derived.Test.YtoadamimfhjoiaaLent
namespace Go.Proofs.Ytoadamimfhjoiaa
open Go.RowKit Go.Sort Go.Shelf

def plc (cs : List Cl) (ns : List ByteArray) (j : Nat) : List Nat := (ns.take j).map fun nm => (findC cs nm).toNat
theorem plc_succ {cs : List Cl} {ns : List ByteArray} {j : Nat} (h : j < ns.length) : plc cs ns (j + 1) = plc cs ns j ++ [(findC cs ns[j]!).toNat] := by
  unfold plc
  rw [List.take_add_one, get!_some h]
  simp
theorem own_set' {α : Type} {enc : α → List Value} {k e B R i : Nat} {w : World} {v u : Value} {xs : List α} (h : Own enc k e B w v xs) (hR : R < B) : Own enc k e B (w.setCell ⟨R, i, none⟩ u) v xs := by
  refine ⟨h.1, h.2.elim Or.inl (fun ⟨g, cap, cur, hv, hg, hblk, q⟩ => Or.inr ⟨g, cap, cur, hv, hg, ?_, q⟩)⟩
  exact far_set hblk (by omega)
theorem cell_far {w : World} {b o R i : Nat} {v u : Value} (h : w.cell? ⟨b, o, none⟩ = some v) (hne : b ≠ R) : (w.setCell ⟨R, i, none⟩ u).cell? ⟨b, o, none⟩ = some v := by
  rw [World.cell?_setCell_other w ⟨R, i, none⟩ ⟨b, o, none⟩ u (fun e => hne (by injection e with e1; exact e1.symm))]; exact h
theorem find_same {v : Value} {cs : List Cl} {nm : ByteArray} {r : Int} {w : World} (hv : ColsAt w v cs) (h : findC cs nm = r) : Calls Try.prog 16 #[v, .string nm] w fun e w' => e = .returned (.int .i64 r) ∧ Below w.heap.size w w' := rfind_is hv h
theorem step_col {ops : Array Oper} {o : Oper} {a : Act} {w : World} {K : Act → World → Prop} {Q : Exit → Act → World → Prop} {E : Prop} {B g : Nat} {xs : List Cl} {v : Value} {x : Cl}
    (hgd : o.guard = none) (s y : Operand) (ho : o.op = .call { callee := .builtin .append, args := #[s, y], argTypes := #[22, 22] }) (hs' : a.eval s = v) (hx : a.eval y = .slice (some ⟨g, 0, none⟩) 1 1)
    (hown : Own Cl.cells 2 45 B w v xs) (hblk : w.heap[g]? = some (.cells #[.string x.nm, .int .i64 x.kd] 45 (0, 0))) (hn : xs.length ≤ 4095) (hB : B ≤ w.heap.size)
    (hK : ∀ v' w', Own Cl.cells 2 45 B w' v' (xs ++ [x]) → Below B w w' → w.grownBy w' v.ownBlock → K (a.put o.dst v') w') : if Region.wanted o (yielded ops a.tmps) = true then Oper.wp Try.prog o a w K Q else E :=
  step_app elem45 cl_len (fun x _ => cl_cells x) hgd s y ho hs' hx hown (lit_sl (xs := [x]) hblk cl_len rfl rfl (Nat.le_refl _) (by simp)) (by have e : bsz 2 = 24 := rfl; rw [e]; simp; omega) hB hK
theorem places_pos {cs : List Cl} : ∀ (ns : List ByteArray) (acc : List Nat), places cs ns acc ≠ [] → ∀ nm ∈ ns, 0 ≤ findC cs nm
  | [], _, _, nm, h => by simp at h
  | n :: r, acc, h, nm, hm => by
    unfold places at h
    split at h
    · exact absurd rfl h
    · rename_i hb
      rcases List.mem_cons.1 hm with e | e
      · subst e; exact Int.not_lt.1 (fun h' => hb (Or.inl h'))
      · exact places_pos r _ h nm e
theorem plc_get {cs : List Cl} {ns : List ByteArray} (h : places cs ns [] ≠ []) {m : Nat} (hm : m < ns.length) : findC cs ns[m]! = ((plc cs ns ns.length)[m]! : Nat) := by
  have e : (plc cs ns ns.length)[m]! = (findC cs ns[m]!).toNat := by
    unfold plc
    rw [List.take_length, List.getElem!_eq_getElem?_getD, List.getElem?_map, get!_some hm]; rfl
  rw [e]
  have := places_pos ns [] h ns[m]! (List.mem_of_getElem? (get!_some hm))
  omega
theorem step_call2 {ops : Array Oper} {o : Oper} {a : Act} {w : World} {K : Act → World → Prop} {Q : Exit → Act → World → Prop} {E : Prop} {f : FuncId} {v v2 : Value} (hgd : o.guard = none) (x y : Operand) (t t2 : TypeId)
    (ho : o.op = .call { callee := .value (.func f), args := #[x, y], argTypes := #[t, t2] }) (hx : a.eval x = v) (hy : a.eval y = v2) (hen : ∀ args w, (callFunc f args).run Try.prog w = .ok (.enter f args) w)
    (hc : Calls Try.prog f #[v, v2] w fun e w' => ∃ u, e = .returned u ∧ K (a.put o.dst u) w') : if Region.wanted o (yielded ops a.tmps) = true then Oper.wp Try.prog o a w K Q else E := by
  have hw : Region.wanted o (yielded ops a.tmps) = true := by simp [Region.wanted, hgd]
  rw [if_pos hw]
  unfold Oper.wp
  have hr : (execOp a.eval o).run Try.prog w = .ok (.enter f #[v, v2]) w := by
    simp [execOp, ho, resolve, invoke, hen, go_sem]
    rw [← hx, ← hy]
    cases x <;> cases y <;> simp [Act.eval]
  rw [hr, Oper.upon_enter]
  refine hc.mono ?_
  rintro e w' ⟨u, rfl, hk⟩
  exact hk
theorem below_al (w : World) (x : Obj) : Below w.heap.size w (w.alloc x) := (Below.refl _ w).alloc (Nat.le_refl _) x
theorem bnd11 {n : Nat} (h : n ≤ 4096) : n * bsz 11 ≤ 140737488355328 := Nat.le_trans (Nat.mul_le_mul h (show bsz 11 ≤ 4096 by decide)) (by decide)
theorem step_val {ops : Array Oper} {o : Oper} {a : Act} {w : World} {K : Act → World → Prop} {Q : Exit → Act → World → Prop} {E : Prop} {B g : Nat} {xs : List Vl} {v : Value} {x : Vl} {C : Array Value}
    (hgd : o.guard = none) (s y : Operand) (ho : o.op = .call { callee := .builtin .append, args := #[s, y], argTypes := #[35, 35] }) (hs' : a.eval s = v) (hx : a.eval y = .slice (some ⟨g, 0, none⟩) 1 1)
    (hown : Own Vl.cells 11 48 B w v xs) (hblk : w.heap[g]? = some (.cells C 48 (0, 0))) (hC : C.toList = x.cells) (hn : xs.length ≤ 4095) (hB : B ≤ w.heap.size)
    (hK : ∀ v' w', Own Vl.cells 11 48 B w' v' (xs ++ [x]) → Below B w w' → w.grownBy w' v.ownBlock → K (a.put o.dst v') w') : if Region.wanted o (yielded ops a.tmps) = true then Oper.wp Try.prog o a w K Q else E :=
  step_app elem48 vl_len (fun x _ => vl_cells x) hgd s y ho hs' hx hown (lit_sl (xs := [x]) hblk vl_len (by rw [hC]; simp) rfl (Nat.le_refl _) (by simp)) (bnd11 (by simp; omega)) hB hK
set_option maxRecDepth 100000 in
set_option maxHeartbeats 2000000 in
theorem rkeep_any {t nv : Value} {cs : List Cl} {rs : List Rw} {ns : List ByteArray} {w : World} (ht : TabAt w t cs rs) (hn : NamesAt w nv ns) (hl : ns.length ≤ 4095) (hlr : rs.length ≤ 4095) :
    Calls Try.prog 25 #[t, nv] w fun e w' => ∃ v', e = .returned (.tuple #[v', .int .i64 (keepE cs rs ns)]) ∧ TabAt w' v' (keepC cs rs ns) (keepR cs rs ns) ∧ Below w.heap.size w w' := by
  have HS := hid ht
  have HN := hid hn
  obtain ⟨c, r, rfl, hc, hs, hr, hh⟩ := ht
  have HC := hid hc
  have HR := hid hr
  have HH := hid hh
  obtain ⟨pc, capc, rfl, -, -, hxc⟩ := hc
  have HXC := hid hxc
  obtain ⟨pr, capr, rfl, -, hmr, hxr⟩ := hr
  have HXR := hid hxr
  unfold maxLen at hmr
  clear hxr
  obtain ⟨pn, capn, rfl, -, hmn, hxn⟩ := hn
  have HXN := hid hxn
  unfold maxLen at hmn
  clear hh hxc hxn
  generalize hnc : cs.length = nc at *
  generalize hnr : hs.length = nr at *
  generalize hnn : ns.length = nn at *
  have HNC := hid hnc
  have HNR := hid hnr
  have HNN := hid hnn
  clear hnc hnr hnn
  have HE := hid (below_aa w (.cells #[.slice pc nc capc, .slice pr nr capr] 25) (.cells #[.slice none 0 0, .slice none 0 0] 25))
  have K2 := hid (alloc_blk1' w (.cells #[.slice pc nc capc, .slice pr nr capr] 25) (.cells #[.slice none 0 0, .slice none 0 0] 25))
  have K4 := hid (alloc_blk2' w (.cells #[.slice pc nc capc, .slice pr nr capr] 25) (.cells #[.slice none 0 0, .slice none 0 0] 25))
  generalize hch : checkV cs rs = ch
  have HCH := hid hch
  by_cases hz : ch = 0
  · subst hz
    have HCB := hid (check_colsB hch)
    have HE20 : Hid (places cs ns [] = [] → keepE cs rs ns = 20) := fun h => by unfold keepE; rw [hch, if_pos rfl, if_pos h]
    have HC20 : Hid (places cs ns [] = [] → keepC cs rs ns = []) := fun h => by unfold keepC; rw [HE20.out h, if_neg (by decide)]
    have HR20 : Hid (places cs ns [] = [] → keepR cs rs ns = []) := fun h => by unfold keepR; rw [HE20.out h, if_neg (by decide)]
    clear hch
    go_enter Try.func25, Try.ntmps25
    go_wp2_with (first | (go_at_call 12; refine (rcheck_is (HS.out.on HE.out) HCH.out).mono ?_; rintro e w1 ⟨rfl, hb1⟩; have HB1 := hid (below_on HE.out hb1); have K21 := hid (block_on K2.out hb1); have K41 := hid (block_on K4.out hb1); clear hb1))
    have KT0 := hid (alloc_block w1 (.cells #[.slice none 0 0, .slice none 0 0] 25))
    have HE1 := hid ((Below.refl w1.heap.size w1).alloc (Nat.le_refl _) (.cells #[.slice none 0 0, .slice none 0 0] 25))
    have hsz1 : w.heap.size + 1 < w1.heap.size := lt_of_block K41.out
    have hszW : w1.heap.size + 1 ≤ (w1.alloc (.cells #[.slice none 0 0, .slice none 0 0] 25)).heap.size := by simp
    generalize (w1.alloc (.cells #[.slice none 0 0, .slice none 0 0] 25)) = W at *
    clear HE K2 K4
    go_loopw [8] (fun i wr => ∃ (j : Nat) (cv : Value), j ≤ nn ∧ i = .int .i64 j ∧ w1.heap.size + 1 ≤ wr.heap.size ∧ Hid (wr.heap[w1.heap.size]? = some (.cells #[cv, .slice none 0 0] 25 (0, 0))) ∧ Hid (Own Cl.cells 2 45 (w1.heap.size + 1) wr cv ((plc cs ns j).map fun p => cs[p]!)) ∧ Hid (places cs (ns.drop j) (plc cs ns j) = places cs ns []) ∧ Hid (∀ p ∈ plc cs ns j, p < cs.length) ∧ Hid (Below w1.heap.size w1 wr)) (fun i _ => nn - (intOf i).toNat)
    case atStart => exact ⟨0, _, by omega, rfl, hszW, KT0.out, Own.nil _ _ _ _ _, rfl, fun p hp => by simp [plc] at hp, HE1.out⟩
    case round =>
      obtain ⟨j, cv, hj, rfl, hsz, HKT, HO, HP, HLT, HB⟩ := hrel
      by_cases hlt : j < nn
      · have hkn : j < ns.length := by rw [HNN.out]; exact hlt
        obtain ⟨bn, on, rfl, -, hjn⟩ := HXN.out (by intro e; subst e; simp at hkn)
        have HBW := hid (below_on HB1.out HB.out)
        have hd : wr.cell? ⟨bn, on + j, none⟩ = some (.string ns[j]!) := by
          have := ((hjn j _ (get!_some hkn)).on HBW.out) 0 _ rfl
          simpa using this
        have HS1 := hid ((places_step (cs := cs) (acc := plc cs ns j) hkn).symm.trans HP.out)
        have HPS0 := hid (plc_succ (cs := cs) hkn)
        have hfl := findC_lt cs ns[j]!
        generalize ns[j]! = nm at hd HS1 HPS0 hfl
        clear hjn
        generalize hf : findC cs nm = f at *
        have HF := hid hf
        clear hf
        have K2r := hid ((HB.out.block w.heap.size (by omega)).trans K21.out)
        have KRr := hid ((HB.out.block (w.heap.size + 1) (by omega)).trans K41.out)
        have HCr := hid (HC.out.on HBW.out)
        have q0 : ∀ d os i, (grow (redrawn wr d) os).cell? ⟨w.heap.size, i, none⟩ = (#[.slice pc nc capc, .slice pr nr capr] : Array Value)[i]? := fun d os i => block_cell (block_on K2r.out (below_regrown wr d os)) i
        have qn : ∀ d os, (grow (redrawn wr d) os).cell? ⟨bn, on + j, none⟩ = some (.string nm) := fun d os => cell_regrown hd d os
        go_wp2_with fail
        refine wp_region_quiet_below (by kernel_rfl) (by kernel_rfl) ?_
        repeat (go_big_quiet_step (first | (go_at_call 16; exact Calls.regrown_of (rfind_is (HCr.out.on (below_regrown wr _ _)) HF.out))))
        refine wpQuiet_nil ?_
        intro _ hw'
        obtain ⟨⟨dq, osq⟩, hw''⟩ := hw'
        subst hw''
        have HW2 := hid (below_regrown wr dq osq)
        have hd2 := qn dq osq
        clear q0 qn hd
        generalize grow (redrawn wr dq) osq = wr2 at *
        have hsz2 : w1.heap.size + 1 ≤ wr2.heap.size := Nat.le_trans hsz HW2.out.size
        have KT2 := hid (block_on HKT.out HW2.out)
        have K22 := hid (block_on K2r.out HW2.out)
        have HO2 := hid (HO.out.on HW2.out)
        have HB2 := hid (below_on HB.out HW2.out)
        by_cases hneg : f < 0
        · have HPZ : places cs ns [] = [] := by
            have he := HS1.out
            rw [if_pos (Or.inl hneg)] at he
            exact he.symm
          have hneg' : decide (f < 0) = true := decide_eq_true hneg
          go_wp2_with fail
          refine wp_region_quiet_below (by kernel_rfl) (by kernel_rfl) ?_
          repeat (go_big_quiet_step (first | fail))
          refine wpQuiet_nil ?_
          intro _ hw'
          obtain ⟨⟨dp, osp⟩, hw''⟩ := hw'
          subst hw''
          have HW3 := hid (below_on HW2.out (below_regrown wr2 dp osp))
          generalize grow (redrawn wr2 dp) osp = wa at *
          have KR := hid (block_on KRr.out HW3.out)
          have kr := block_cell KR.out
          have fr := frozen_no KR.out
          go_wp2
          refine bodyPost_ret (v := .tuple #[.agg #[.slice none 0 0, .slice none 0 0], .int .i64 20]) ?_ rfl ⟨_, by rw [HE20.out HPZ], by rw [HC20.out HPZ, HR20.out HPZ]; exact nil_tab _, below_set (below_set (below_on HBW.out HW3.out) (by omega)) (by omega)⟩
          have KF := Joins.block_setCell (i := 1) (Joins.block_setCell (i := 0) KR.out (.slice none 0 0)) (.slice none 0 0)
          clear kr fr
          generalize ((wa.setCell ⟨w.heap.size + 1, 0, none⟩ (.slice none 0 0)).setCell ⟨w.heap.size + 1, 1, none⟩ (.slice none 0 0)) = WF at KF ⊢
          have kcf := block_cell KF
          clear KF
          simp [results, Try.results25, go_sem, kcf]
        · have hneg' : decide (f < 0) = false := decide_eq_false hneg
          have hgm := find_mem (nm := nm) HCB.out HLT.out (by rw [HF.out]; omega)
          rw [HF.out] at hgm
          generalize hg : findC ((plc cs ns j).map fun p => cs[p]!) nm = g at *
          have HG := hid hg
          clear hg
          have HPN : (plc cs ns j).length ≤ 4095 := by simp [plc]; omega
          have HCo := hid ((Own.sl HO2.out cl_len (by have e : bsz 2 = 24 := rfl; rw [e]; simp; omega)).imp (fun _ _ => trivial) : ColsAt wr2 cv _)
          have q0 : ∀ d os i, (grow (redrawn wr2 d) os).cell? ⟨w1.heap.size, i, none⟩ = (#[cv, .slice none 0 0] : Array Value)[i]? := fun d os i => block_cell (block_on KT2.out (below_regrown wr2 d os)) i
          have qn : ∀ d os, (grow (redrawn wr2 d) os).cell? ⟨bn, on + j, none⟩ = some (.string nm) := fun d os => cell_regrown hd2 d os
          by_cases hg0 : 0 ≤ g
          · have HPZ : places cs ns [] = [] := by
              have he := HS1.out
              rw [if_pos (Or.inr (hgm.1 hg0))] at he
              exact he.symm
            have hg' : decide (0 ≤ g) = true := decide_eq_true hg0
            have hg2 : decide (g ≥ 0) = true := decide_eq_true hg0
            clear hgm
            go_wp2_with fail
            refine wp_region_quiet_below (by kernel_rfl) (by kernel_rfl) ?_
            repeat (go_big_quiet_step (first | (go_at_call 16; exact Calls.regrown_of (rfind_is (HCo.out.on (below_regrown wr2 _ _)) HG.out))))
            refine wpQuiet_nil ?_
            intro _ hw'
            obtain ⟨⟨dp, osp⟩, hw''⟩ := hw'
            subst hw''
            have HW3 := hid (below_on HW2.out (below_regrown wr2 dp osp))
            clear q0 qn hd2
            generalize grow (redrawn wr2 dp) osp = wa at *
            have KR := hid (block_on KRr.out HW3.out)
            have kr := block_cell KR.out
            have fr := frozen_no KR.out
            go_wp2
            refine bodyPost_ret (v := .tuple #[.agg #[.slice none 0 0, .slice none 0 0], .int .i64 20]) ?_ rfl ⟨_, by rw [HE20.out HPZ], by rw [HC20.out HPZ, HR20.out HPZ]; exact nil_tab _, below_set (below_set (below_on HBW.out HW3.out) (by omega)) (by omega)⟩
            have KF := Joins.block_setCell (i := 1) (Joins.block_setCell (i := 0) KR.out (.slice none 0 0)) (.slice none 0 0)
            clear kr fr
            generalize ((wa.setCell ⟨w.heap.size + 1, 0, none⟩ (.slice none 0 0)).setCell ⟨w.heap.size + 1, 1, none⟩ (.slice none 0 0)) = WF at KF ⊢
            have kcf := block_cell KF
            clear KF
            simp [results, Try.results25, go_sem, kcf]
          · have hkc : f.toNat < cs.length := by have := HNC.out; omega
            have HFK : Hid (f = (f.toNat : Int)) := by show f = _; omega
            have HGOOD : Hid (places cs (ns.drop (j + 1)) (plc cs ns j ++ [f.toNat]) = places cs ns []) := by
              have he := HS1.out
              rw [if_neg (by intro h; rcases h with h | h; · omega
                             · exact hg0 (hgm.2 h))] at he
              exact he
            have HPL : Hid (plc cs ns j ++ [f.toNat] = plc cs ns (j + 1)) := HPS0.out.symm
            have HPS : Hid ((plc cs ns (j + 1)).map (fun p => cs[p]!) = (plc cs ns j).map (fun p => cs[p]!) ++ [cs[f.toNat]!]) := by show _ = _; rw [HPS0.out, List.map_append]; rfl
            have HLT2 : Hid (∀ p ∈ plc cs ns (j + 1), p < cs.length) := by
              show ∀ p ∈ _, _
              intro p hp
              rw [HPS0.out] at hp
              rcases List.mem_append.1 hp with h | h
              · exact HLT.out p h
              · simp at h; subst h; exact hkc
            have hg' : decide (0 ≤ g) = false := decide_eq_false hg0
            have hg2 : decide (g ≥ 0) = false := decide_eq_false hg0
            clear hgm
            go_wp2_with fail
            refine wp_region_quiet_below (by kernel_rfl) (by kernel_rfl) ?_
            repeat (go_big_quiet_step (first | (go_at_call 16; exact Calls.regrown_of (rfind_is (HCo.out.on (below_regrown wr2 _ _)) HG.out))))
            refine wpQuiet_nil ?_
            intro _ hw'
            obtain ⟨⟨dp, osp⟩, hw''⟩ := hw'
            subst hw''
            have HW3 := hid (below_regrown wr2 dp osp)
            clear q0 qn hd2
            generalize grow (redrawn wr2 dp) osp = wa at *
            generalize f.toNat = k at *
            have hfk := HFK.out
            subst hfk
            clear HFK
            have hsza : w1.heap.size + 1 ≤ wa.heap.size := Nat.le_trans hsz2 HW3.out.size
            have KTa := hid (block_on KT2.out HW3.out)
            have K2a := hid (block_on K22.out HW3.out)
            have HOa := hid (HO2.out.on HW3.out)
            have HBa := hid (below_on HB2.out HW3.out)
            obtain ⟨bc, oc, rfl, -, hjc⟩ := HXC.out (by intro e; subst e; simp at hkc)
            have ce := (hjc k _ (get!_some hkc)).on (below_on HB1.out HBa.out)
            have ce0 : wa.cell? ⟨bc, oc + k * 2, none⟩ = some (.string (cs[k]!).nm) := ce 0 _ rfl
            have ce1 : wa.cell? ⟨bc, oc + k * 2 + 1, none⟩ = some (.int .i64 (cs[k]!).kd) := ce 1 _ rfl
            have hbc : bc < w.heap.size := block_lt_of_cell (by have := hjc k _ (get!_some hkc) 0 _ rfl; exact this)
            generalize cs[k]! = cl at *
            clear ce hjc
            have hknc : k < nc := by have := HNC.out; omega
            have kTa := block_cell KTa.out
            have kTb := block_cell (blk_on KTa.out (.cells #[.string cl.nm, .int .i64 cl.kd] 45))
            go_wp2_with fail
            refine wp_region_held_drew (S := fun w' => w'.heap[w.heap.size]? = some (.cells #[.slice (some ⟨bc, oc, none⟩) nc capc, .slice pr nr capr] 25 (0, 0)) ∧ w'.cell? ⟨bc, oc + k * 2, none⟩ = some (.string cl.nm) ∧ w'.cell? ⟨bc, oc + k * 2 + 1, none⟩ = some (.int .i64 cl.kd)) (by kernel_rfl) ⟨K2a.out, ce0, ce1⟩ (fun hH => ?_)
            refine wpAnyH_take (i := 0) (oi := { dst := some 46, op := Op.fieldAddr 25 (Operand.tmp 7) 0, type := 0, pos := "ref.go:161", after := #[], guard := none }) (v := .pointer (some ⟨w1.heap.size, 0, none⟩)) rfl (by kernel_rfl) (by kernel_rfl) (by kernel_rfl) (fun _ _ _ h => h) (Or.inl ⟨by rfl, ?tky⟩) hH ?tkr
            case tky =>
              intro w' hS'
              have s0 := block_cell hS'.1
              have s1 := hS'.2.1
              have s2 := hS'.2.2
              go_simp
              try (intro hcon; exfalso; omega)
            case tkr =>
            simp only [Act.put, List.setIfInBounds_toArray, List.set_cons_zero, List.set_cons_succ]
            refine wpAnyH_take (i := 2) (oi := { dst := some 48, op := Op.fieldAddr 25 (Operand.tmp 2) 0, type := 0, pos := "ref.go:161", after := #[], guard := none }) (v := .pointer (some ⟨w.heap.size, 0, none⟩)) rfl (by kernel_rfl) (by kernel_rfl) (by kernel_rfl) (fun _ _ _ h => h) (Or.inl ⟨by rfl, ?tky⟩) hH ?tkr
            case tky =>
              intro w' hS'
              have s0 := block_cell hS'.1
              have s1 := hS'.2.1
              have s2 := hS'.2.2
              go_simp
              try (intro hcon; exfalso; omega)
            case tkr =>
            simp only [Act.put, List.setIfInBounds_toArray, List.set_cons_zero, List.set_cons_succ]
            refine wpAnyH_take (i := 3) (oi := { dst := some 49, op := Op.load 22 (Operand.tmp 48), type := 22, pos := "ref.go:161", after := #[{ on := 2, ground := Ground.data }], guard := none }) (v := .slice (some ⟨bc, oc, none⟩) nc capc) rfl (by kernel_rfl) (by kernel_rfl) (by kernel_rfl) (fun _ _ _ h => h) (Or.inl ⟨by rfl, ?tky⟩) hH ?tkr
            case tky =>
              intro w' hS'
              have s0 := block_cell hS'.1
              have s1 := hS'.2.1
              have s2 := hS'.2.2
              go_simp
              try (intro hcon; exfalso; omega)
            case tkr =>
            simp only [Act.put, List.setIfInBounds_toArray, List.set_cons_zero, List.set_cons_succ]
            refine wpAnyH_take (i := 4) (oi := { dst := some 50, op := Op.move (Operand.tmp 9), type := 3, pos := "ref.go:161", after := #[], guard := none }) (v := .int .i64 k) rfl (by kernel_rfl) (by kernel_rfl) (by kernel_rfl) (fun _ _ _ h => h) (Or.inl ⟨by rfl, ?tky⟩) hH ?tkr
            case tky =>
              intro w' hS'
              have s0 := block_cell hS'.1
              have s1 := hS'.2.1
              have s2 := hS'.2.2
              go_simp
              try (intro hcon; exfalso; omega)
            case tkr =>
            simp only [Act.put, List.setIfInBounds_toArray, List.set_cons_zero, List.set_cons_succ]
            refine wpAnyH_take (i := 5) (oi := { dst := some 51, op := Op.indexAddr 22 (Operand.tmp 49) (Operand.tmp 50), type := 0, pos := "ref.go:161", after := #[{ on := 3, ground := Ground.data }, { on := 4, ground := Ground.data }], guard := none }) (v := .pointer (some ⟨bc, oc + k * 2, none⟩)) rfl (by kernel_rfl) (by kernel_rfl) (by kernel_rfl) (fun _ _ _ h => h) (Or.inl ⟨by rfl, ?tky⟩) hH ?tkr
            case tky =>
              intro w' hS'
              have s0 := block_cell hS'.1
              have s1 := hS'.2.1
              have s2 := hS'.2.2
              go_simp
              try (intro hcon; exfalso; omega)
            case tkr =>
            simp only [Act.put, List.setIfInBounds_toArray, List.set_cons_zero, List.set_cons_succ]
            refine wpAnyH_take (i := 6) (oi := { dst := some 52, op := Op.load 45 (Operand.tmp 51), type := 45, pos := "ref.go:161", after := #[{ on := 5, ground := Ground.data }], guard := none }) (v := .agg #[.string cl.nm, .int .i64 cl.kd]) rfl (by kernel_rfl) (by kernel_rfl) (by kernel_rfl) (fun _ _ _ h => h) (Or.inl ⟨by rfl, ?tky⟩) hH ?tkr
            case tky =>
              intro w' hS'
              have s0 := block_cell hS'.1
              have s1 := hS'.2.1
              have s2 := hS'.2.2
              go_simp
              try (intro hcon; exfalso; omega)
            case tkr =>
            simp only [Act.put, List.setIfInBounds_toArray, List.set_cons_zero, List.set_cons_succ]
            refine wpAnyH_ready (rs := [1, 7]) (by kernel_rfl) (by simp) ?_
            refine AllReadyH.cons (o := { dst := some 47, op := Op.load 22 (Operand.tmp 46), type := 22, pos := "ref.go:161", after := #[{ on := 0, ground := Ground.data }], guard := none }) rfl (fun K hK => ?_) (AllReadyH.cons (o := { dst := some 53, op := Op.buildSlice 22 1 #[(0, Operand.tmp 52)], type := 22, pos := "ref.go:161", after := #[{ on := 6, ground := Ground.data }], guard := none }) rfl (fun K hK => ?_) AllReadyH.nil)
            · go_simp
              refine hK.out _ _ hH (fun hH => ?_)
              clear hK
              refine wpAnyH_ready (rs := [7]) (by kernel_rfl) (by simp) ?_
              refine AllReadyH.cons (o := { dst := some 53, op := Op.buildSlice 22 1 #[(0, Operand.tmp 52)], type := 22, pos := "ref.go:161", after := #[{ on := 6, ground := Ground.data }], guard := none }) rfl (fun K hK => ?_) AllReadyH.nil
              go_simp
              refine hK.out _ _ ⟨blk_on hH.1 _, cell_on ce0 (below_ad wa _), cell_on ce1 (below_ad wa _)⟩ (fun hH => ?_)
              clear hK
              refine wpAnyH_ready (rs := [8]) (by kernel_rfl) (by simp) ?_
              refine AllReadyH.cons (o := { dst := some 54, op := Op.call { callee := Callee.builtin Builtin.append, args := #[Operand.tmp 47, Operand.tmp 53], argTypes := #[22, 22] }, type := 22, pos := "ref.go:161", after := #[{ on := 1, ground := Ground.data }, { on := 7, ground := Ground.data }], guard := none }) rfl (fun K hK => ?_) AllReadyH.nil
              refine step_col (x := cl) rfl (.tmp 47) (.tmp 53) rfl (by simp [Act.eval]; try rfl) (by simp [Act.eval]; try rfl) (HOa.out.on (below_ad wa _)) (alloc_block wa _) (by simp [plc]; omega) (by simp; omega) ?_
              intro v3 w3 hown3 hb3 hg3
              have HO3 := hid hown3
              have HB3 := hid hb3
              obtain ⟨g', cap3, rfl⟩ := Joins.ownsRow_form hown3 (by simp)
              generalize List.length (List.map (fun p => cs[p]!) (plc cs ns j) ++ [cl]) = l3 at *
              have KT3 := hid ((hb3.block w1.heap.size (by omega)).trans (blk_on KTa.out _))
              have K23 := hid ((hb3.block w.heap.size (by omega)).trans (blk_on K2a.out _))
              have ce03 : w3.cell? ⟨bc, oc + k * 2, none⟩ = some (.string cl.nm) := (hb3.cell (p := ⟨bc, oc + k * 2, none⟩) (by show bc < _; omega)).trans (cell_on ce0 (below_ad wa _))
              have ce13 : w3.cell? ⟨bc, oc + k * 2 + 1, none⟩ = some (.int .i64 cl.kd) := (hb3.cell (p := ⟨bc, oc + k * 2 + 1, none⟩) (by show bc < _; omega)).trans (cell_on ce1 (below_ad wa _))
              have kT3 := block_cell KT3.out
              have fT3 := frozen_no KT3.out
              clear hown3 hb3 hg3
              refine hK.out _ _ ⟨K23.out, ce03, ce13⟩ (fun hH => ?_)
              clear hK
              simp only [Act.put, List.setIfInBounds_toArray, List.set_cons_zero, List.set_cons_succ]
              refine wpAnyH_ready (rs := [9]) (by kernel_rfl) (by simp) ?_
              refine AllReadyH.cons (o := { dst := some 55, op := Op.fieldAddr 25 (Operand.tmp 7) 0, type := 0, pos := "ref.go:161", after := #[{ on := 0, ground := Ground.phase }, { on := 1, ground := Ground.phase }, { on := 2, ground := Ground.phase }, { on := 3, ground := Ground.phase }, { on := 4, ground := Ground.phase }, { on := 5, ground := Ground.phase }, { on := 6, ground := Ground.phase }, { on := 7, ground := Ground.phase }, { on := 8, ground := Ground.phase }], guard := none }) rfl (fun K hK => ?_) AllReadyH.nil
              go_simp
              refine hK.out _ _ hH (fun hH => ?_)
              clear hK
              refine wpAnyH_ready (rs := [10]) (by kernel_rfl) (by simp) ?_
              refine AllReadyH.cons (o := { dst := none, op := Op.store 22 (Operand.tmp 55) (Operand.tmp 54), type := 0, pos := "ref.go:161", after := #[{ on := 9, ground := Ground.data }, { on := 8, ground := Ground.data }, { on := 8, ground := Ground.chain }, { on := 0, ground := Ground.phase }, { on := 1, ground := Ground.phase }, { on := 2, ground := Ground.phase }, { on := 3, ground := Ground.phase }, { on := 4, ground := Ground.phase }, { on := 5, ground := Ground.phase }, { on := 6, ground := Ground.phase }, { on := 7, ground := Ground.phase }, { on := 8, ground := Ground.phase }], guard := none }) rfl (fun K hK => ?_) AllReadyH.nil
              go_simp
              refine hK.out _ _ ⟨far_set K23.out (by omega), cell_far ce03 (by omega), cell_far ce13 (by omega)⟩ (fun hH => ?_)
              clear hK
              refine wpAnyH_done (by kernel_rfl) ?_ _
              go_wp2
              go_roundw
              case rel => exact ⟨j + 1, _, by omega, by go_num, by rw [World.size_setCell]; exact Nat.le_trans hsza (Nat.le_trans (below_ad wa _).size HB3.out.size), Joins.block_setCell (i := 0) KT3.out _, own_set' (by rw [HPS.out]; exact HO3.out) (by omega), by rw [← HPL.out]; exact HGOOD.out, HLT2.out, below_set (HBa.out.trans (((below_ad wa _).mono HBa.out.size).trans (HB3.out.mono (by omega)))) (Nat.le_refl _)⟩
              case measure => simp [intOf]; omega
            · go_simp
              refine hK.out _ _ ⟨blk_on hH.1 _, cell_on ce0 (below_ad wa _), cell_on ce1 (below_ad wa _)⟩ (fun hH => ?_)
              clear hK
              refine wpAnyH_ready (rs := [1]) (by kernel_rfl) (by simp) ?_
              refine AllReadyH.cons (o := { dst := some 47, op := Op.load 22 (Operand.tmp 46), type := 22, pos := "ref.go:161", after := #[{ on := 0, ground := Ground.data }], guard := none }) rfl (fun K hK => ?_) AllReadyH.nil
              go_simp
              refine hK.out _ _ hH (fun hH => ?_)
              clear hK
              refine wpAnyH_ready (rs := [8]) (by kernel_rfl) (by simp) ?_
              refine AllReadyH.cons (o := { dst := some 54, op := Op.call { callee := Callee.builtin Builtin.append, args := #[Operand.tmp 47, Operand.tmp 53], argTypes := #[22, 22] }, type := 22, pos := "ref.go:161", after := #[{ on := 1, ground := Ground.data }, { on := 7, ground := Ground.data }], guard := none }) rfl (fun K hK => ?_) AllReadyH.nil
              refine step_col (x := cl) rfl (.tmp 47) (.tmp 53) rfl (by simp [Act.eval]; try rfl) (by simp [Act.eval]; try rfl) (HOa.out.on (below_ad wa _)) (alloc_block wa _) (by simp [plc]; omega) (by simp; omega) ?_
              intro v3 w3 hown3 hb3 hg3
              have HO3 := hid hown3
              have HB3 := hid hb3
              obtain ⟨g', cap3, rfl⟩ := Joins.ownsRow_form hown3 (by simp)
              generalize List.length (List.map (fun p => cs[p]!) (plc cs ns j) ++ [cl]) = l3 at *
              have KT3 := hid ((hb3.block w1.heap.size (by omega)).trans (blk_on KTa.out _))
              have K23 := hid ((hb3.block w.heap.size (by omega)).trans (blk_on K2a.out _))
              have ce03 : w3.cell? ⟨bc, oc + k * 2, none⟩ = some (.string cl.nm) := (hb3.cell (p := ⟨bc, oc + k * 2, none⟩) (by show bc < _; omega)).trans (cell_on ce0 (below_ad wa _))
              have ce13 : w3.cell? ⟨bc, oc + k * 2 + 1, none⟩ = some (.int .i64 cl.kd) := (hb3.cell (p := ⟨bc, oc + k * 2 + 1, none⟩) (by show bc < _; omega)).trans (cell_on ce1 (below_ad wa _))
              have kT3 := block_cell KT3.out
              have fT3 := frozen_no KT3.out
              clear hown3 hb3 hg3
              refine hK.out _ _ ⟨K23.out, ce03, ce13⟩ (fun hH => ?_)
              clear hK
              simp only [Act.put, List.setIfInBounds_toArray, List.set_cons_zero, List.set_cons_succ]
              refine wpAnyH_ready (rs := [9]) (by kernel_rfl) (by simp) ?_
              refine AllReadyH.cons (o := { dst := some 55, op := Op.fieldAddr 25 (Operand.tmp 7) 0, type := 0, pos := "ref.go:161", after := #[{ on := 0, ground := Ground.phase }, { on := 1, ground := Ground.phase }, { on := 2, ground := Ground.phase }, { on := 3, ground := Ground.phase }, { on := 4, ground := Ground.phase }, { on := 5, ground := Ground.phase }, { on := 6, ground := Ground.phase }, { on := 7, ground := Ground.phase }, { on := 8, ground := Ground.phase }], guard := none }) rfl (fun K hK => ?_) AllReadyH.nil
              go_simp
              refine hK.out _ _ hH (fun hH => ?_)
              clear hK
              refine wpAnyH_ready (rs := [10]) (by kernel_rfl) (by simp) ?_
              refine AllReadyH.cons (o := { dst := none, op := Op.store 22 (Operand.tmp 55) (Operand.tmp 54), type := 0, pos := "ref.go:161", after := #[{ on := 9, ground := Ground.data }, { on := 8, ground := Ground.data }, { on := 8, ground := Ground.chain }, { on := 0, ground := Ground.phase }, { on := 1, ground := Ground.phase }, { on := 2, ground := Ground.phase }, { on := 3, ground := Ground.phase }, { on := 4, ground := Ground.phase }, { on := 5, ground := Ground.phase }, { on := 6, ground := Ground.phase }, { on := 7, ground := Ground.phase }, { on := 8, ground := Ground.phase }], guard := none }) rfl (fun K hK => ?_) AllReadyH.nil
              go_simp
              refine hK.out _ _ ⟨far_set K23.out (by omega), cell_far ce03 (by omega), cell_far ce13 (by omega)⟩ (fun hH => ?_)
              clear hK
              refine wpAnyH_done (by kernel_rfl) ?_ _
              go_wp2
              go_roundw
              case rel => exact ⟨j + 1, _, by omega, by go_num, by rw [World.size_setCell]; exact Nat.le_trans hsza (Nat.le_trans (below_ad wa _).size HB3.out.size), Joins.block_setCell (i := 0) KT3.out _, own_set' (by rw [HPS.out]; exact HO3.out) (by omega), by rw [← HPL.out]; exact HGOOD.out, HLT2.out, below_set (HBa.out.trans (((below_ad wa _).mono HBa.out.size).trans (HB3.out.mono (by omega)))) (Nat.le_refl _)⟩
              case measure => simp [intOf]; omega
      · obtain rfl : j = nn := by omega
        have hd0 : ns.drop j = [] := List.drop_eq_nil_of_le (by rw [HNN.out]; exact Nat.le_refl _)
        rw [hd0] at HP
        have HPP : plc cs ns j = places cs ns [] := HP.out
        have HBW := hid (below_on HB1.out HB.out)
        have K2r := hid ((HB.out.block w.heap.size (by omega)).trans K21.out)
        have KRr := hid ((HB.out.block (w.heap.size + 1) (by omega)).trans K41.out)
        by_cases hj0 : j = 0
        · have HPZ : places cs ns [] = [] := by rw [← HPP, hj0]; rfl
          have hj0' : (((j : Nat) : Int) == 0) = true := by rw [hj0]; rfl
          have KR := hid KRr.out
          have kr := block_cell KR.out
          have fr := frozen_no KR.out
          subst hj0
          clear HPP
          go_wp2
          refine bodyPost_ret (v := .tuple #[.agg #[.slice none 0 0, .slice none 0 0], .int .i64 20]) ?_ rfl ⟨_, by rw [HE20.out HPZ], by rw [HC20.out HPZ, HR20.out HPZ]; exact nil_tab _, below_set (below_set HBW.out (by omega)) (by omega)⟩
          have KF := Joins.block_setCell (i := 1) (Joins.block_setCell (i := 0) KR.out (.slice none 0 0)) (.slice none 0 0)
          clear kr fr
          generalize ((wr.setCell ⟨w.heap.size + 1, 0, none⟩ (.slice none 0 0)).setCell ⟨w.heap.size + 1, 1, none⟩ (.slice none 0 0)) = WF at KF ⊢
          have kcf := block_cell KF
          clear KF
          simp [results, Try.results25, go_sem, kcf]
        · have hpl : (plc cs ns j).length = j := by unfold plc; rw [List.length_map, List.length_take, HNN.out, Nat.min_self]
          have hpne : places cs ns [] ≠ [] := by
            intro e
            rw [HPP, e] at hpl
            simp at hpl; omega
          have HE0 : Hid (keepE cs rs ns = 0) := by show _ = _; unfold keepE; rw [HCH.out, if_pos rfl, if_neg hpne]
          have HC0 : Hid (keepC cs rs ns = (plc cs ns j).map fun p => cs[p]!) := by show _ = _; unfold keepC; rw [HE0.out, if_pos rfl, HPP]
          have HR0 : Hid (keepR cs rs ns = sortR (rs.map fun r => (plc cs ns j).map fun p => r[p]!)) := by show _ = _; unfold keepR; rw [HE0.out, if_pos rfl, HPP]
          have HPG : Hid (∀ m, m < j → findC cs ns[m]! = ((plc cs ns j)[m]! : Nat)) := by
            show ∀ m, _
            intro m hm
            have := plc_get hpne (m := m) (by rw [HNN.out]; exact hm)
            rw [HNN.out] at this
            exact this
          have HFITS := hid (check_fits HCH.out)
          clear HE20 HC20 HR20 HP HPP hpne hd0 HCH HCB
          generalize plc cs ns j = ps at *
          have HCS := hid (SlAt.low (Own.sl HO.out cl_len (by have e : bsz 2 = 24 := rfl; rw [e]; simp; omega)) (by decide) cl_len)
          have hj0' : (((j : Nat) : Int) == 0) = false := by simp; omega
          go_wp2
          generalize wr = wl at *
          go_loopw [10] (fun i wr => ∃ (k : Nat) (rv : Value) (hs' : List Value), k ≤ nr ∧ i = .int .i64 k ∧ hs'.length = k ∧ wl.heap.size ≤ wr.heap.size ∧ Hid (wr.heap[w1.heap.size]? = some (.cells #[cv, rv] 25 (0, 0))) ∧ Hid (Own one 1 35 wl.heap.size wr rv hs') ∧ Hid (HeadsIn (ty48 w.heap.size wr) wr hs' ((rs.take k).map fun r => ps.map fun p => r[p]!)) ∧ Hid (SlAt (fun b => w1.heap.size + 1 ≤ b ∧ b < wl.heap.size) Cl.cells 2 wr cv (ps.map fun p => cs[p]!)) ∧ Hid (Below w1.heap.size w1 wr)) (fun i _ => nr - (intOf i).toNat)
          case atStart => exact ⟨0, _, [], by omega, rfl, rfl, Nat.le_refl _, HKT.out, Own.nil _ _ _ _ _, ⟨rfl, fun j h r h1 _ => by simp at h1⟩, HCS.out, HB.out⟩
          case round =>
            clear HO HB HBW K2r KRr HKT HCS
            obtain ⟨k, rv, hs', hk, rfl, hlen, hszr, HKT, HO, HHr, HCV, HB⟩ := hrel
            have HBw := hid (below_on HB1.out HB.out)
            have K0r := hid ((HB.out.block w.heap.size (by omega)).trans K21.out)
            have KRr := hid ((HB.out.block (w.heap.size + 1) (by omega)).trans K41.out)
            have k0 := block_cell K0r.out
            by_cases hltk : k < nr
            · have hkh : k < hs.length := by rw [HNR.out]; exact hltk
              have hkr : k < rs.length := by rw [← HH.out.1]; exact hkh
              obtain ⟨b, o, rfl, -, hj⟩ := HXR.out (by intro e; subst e; simp at hkh)
              have hd := head_cell (fun j x hjx => (hj j x hjx).on HBw.out) (get!_some hkh)
              have HRow := hid ((HH.out.2 k _ _ (get!_some hkh) (get!_some hkr)).on HBw.out)
              have HTK := hid (take_snoc hkr)
              have hrl := HFITS.out _ (List.mem_of_getElem? (get!_some hkr))
              rw [HNC.out] at hrl
              generalize hs[k]! = hd0 at hd HRow
              generalize rs[k]! = r0 at HRow HTK hrl
              clear hj
              obtain ⟨px, capx, rfl, -, -, hxx⟩ := id HRow.out
              have HXX := hid hxx
              clear hxx
              rw [hrl] at hd HRow
              go_wp2
              generalize wr = wo at *
              go_loopw [11, 12] (fun v11 i wr => ∃ (m : Nat) (rw0 : Value), rw0 = v11 ∧ m ≤ j ∧ i = .int .i64 m ∧ Hid (Own Vl.cells 11 48 wo.heap.size wr rw0 ((ps.take m).map fun p => r0[p]!)) ∧ Hid (Below wo.heap.size wo wr)) (fun _ i _ => j - (intOf i).toNat)
              case atStart => exact ⟨0, _, rfl, by omega, rfl, Own.nil _ _ _ _ _, Below.refl _ _⟩
              case round =>
                obtain ⟨m, rw0, rfl, hm, rfl, HOm, HBm⟩ := hrel
                by_cases hmj : m < j
                · have hmn2 : m < ns.length := by rw [HNN.out]; exact hmj
                  have hmp : m < ps.length := by rw [hpl]; exact hmj
                  obtain ⟨bn, on, rfl, -, hjn⟩ := HXN.out (by intro e; subst e; simp at hmn2)
                  have hbn : bn < w.heap.size := block_lt_of_cell (hjn m _ (get!_some hmn2) 0 _ rfl)
                  have HBWm := hid (below_on HBw.out HBm.out)
                  have hnm : wr.cell? ⟨bn, on + m, none⟩ = some (.string ns[m]!) := by
                    have := ((hjn m _ (get!_some hmn2)).on HBWm.out) 0 _ rfl
                    simpa using this
                  have HPm := hid (HPG.out m hmj)
                  have HPT := hid (take_map_snoc_gen (f := fun p => r0[p]!) hmp)
                  have hpc := HLT.out _ (List.mem_of_getElem? (get!_some hmp))
                  rw [HNC.out] at hpc
                  generalize ns[m]! = nm at hnm HPm
                  generalize ps[m]! = p at HPm HPT hpc
                  clear hjn
                  have hpr : p < r0.length := by rw [hrl]; exact hpc
                  obtain ⟨bx, ox, rfl, -, hjx⟩ := HXX.out (by intro e; subst e; simp at hpr)
                  have hbx : bx < wo.heap.size := block_lt_of_cell (hjx p _ (get!_some hpr) 0 _ rfl)
                  have HXm := hid ((hjx p _ (get!_some hpr)).on HBm.out)
                  have hbo : b < wo.heap.size := block_lt_of_cell hd
                  have hdm := cell_on hd HBm.out
                  have K0m := hid (block_on K0r.out HBm.out)
                  have HCm := hid (HC.out.on HBWm.out)
                  have hszm := HBm.out.size
                  have hszw := HBw.out.size
                  generalize r0[p]! = x at *
                  clear hjx
                  go_wp2_with fail
                  refine wp_region_held_drew (S := fun w' => w'.heap[w.heap.size]? = some (.cells #[.slice pc nc capc, .slice (some ⟨b, o, none⟩) nr capr] 25 (0, 0)) ∧ w'.cell? ⟨b, o + k, none⟩ = some (.slice (some ⟨bx, ox, none⟩) nc capx) ∧ w'.cell? ⟨bn, on + m, none⟩ = some (.string nm) ∧ CellsAt w' bx (ox + p * 11) x.cells) (by kernel_rfl) ⟨K0m.out, hdm, hnm, HXm.out⟩ (fun hH => ?_)
                  refine wpAnyH_take (i := 0) (oi := { dst := some 73, op := Op.move (Operand.tmp 11), type := 35, pos := "ref.go:169", after := #[], guard := none }) (v := rw0) rfl (by kernel_rfl) (by kernel_rfl) (by kernel_rfl) (fun _ _ _ h => h) (Or.inl ⟨by rfl, ?tky⟩) hH ?tkr
                  case tky =>
                    intro w' hS'
                    have s0 := block_cell hS'.1
                    have s1 := hS'.2.1
                    have s2 := hS'.2.2.1
                    obtain ⟨c0, c1, c2, c3, c4, c5, c6, c7, c8, c9, c10⟩ := val_cells hS'.2.2.2
                    go_simp
                    try (intro hcon; exfalso; omega)
                  case tkr =>
                  simp only [Act.put, List.setIfInBounds_toArray, List.set_cons_zero, List.set_cons_succ]
                  refine wpAnyH_take (i := 1) (oi := { dst := some 74, op := Op.fieldAddr 25 (Operand.tmp 2) 1, type := 0, pos := "ref.go:169", after := #[], guard := none }) (v := .pointer (some ⟨w.heap.size, 1, none⟩)) rfl (by kernel_rfl) (by kernel_rfl) (by kernel_rfl) (fun _ _ _ h => h) (Or.inl ⟨by rfl, ?tky⟩) hH ?tkr
                  case tky =>
                    intro w' hS'
                    have s0 := block_cell hS'.1
                    have s1 := hS'.2.1
                    have s2 := hS'.2.2.1
                    obtain ⟨c0, c1, c2, c3, c4, c5, c6, c7, c8, c9, c10⟩ := val_cells hS'.2.2.2
                    go_simp
                    try (intro hcon; exfalso; omega)
                  case tkr =>
                  simp only [Act.put, List.setIfInBounds_toArray, List.set_cons_zero, List.set_cons_succ]
                  refine wpAnyH_take (i := 2) (oi := { dst := some 75, op := Op.load 23 (Operand.tmp 74), type := 23, pos := "ref.go:169", after := #[{ on := 1, ground := Ground.data }], guard := none }) (v := .slice (some ⟨b, o, none⟩) nr capr) rfl (by kernel_rfl) (by kernel_rfl) (by kernel_rfl) (fun _ _ _ h => h) (Or.inl ⟨by rfl, ?tky⟩) hH ?tkr
                  case tky =>
                    intro w' hS'
                    have s0 := block_cell hS'.1
                    have s1 := hS'.2.1
                    have s2 := hS'.2.2.1
                    obtain ⟨c0, c1, c2, c3, c4, c5, c6, c7, c8, c9, c10⟩ := val_cells hS'.2.2.2
                    go_simp
                    try (intro hcon; exfalso; omega)
                  case tkr =>
                  simp only [Act.put, List.setIfInBounds_toArray, List.set_cons_zero, List.set_cons_succ]
                  refine wpAnyH_take (i := 3) (oi := { dst := some 76, op := Op.move (Operand.tmp 10), type := 3, pos := "ref.go:169", after := #[], guard := none }) (v := .int .i64 k) rfl (by kernel_rfl) (by kernel_rfl) (by kernel_rfl) (fun _ _ _ h => h) (Or.inl ⟨by rfl, ?tky⟩) hH ?tkr
                  case tky =>
                    intro w' hS'
                    have s0 := block_cell hS'.1
                    have s1 := hS'.2.1
                    have s2 := hS'.2.2.1
                    obtain ⟨c0, c1, c2, c3, c4, c5, c6, c7, c8, c9, c10⟩ := val_cells hS'.2.2.2
                    go_simp
                    try (intro hcon; exfalso; omega)
                  case tkr =>
                  simp only [Act.put, List.setIfInBounds_toArray, List.set_cons_zero, List.set_cons_succ]
                  refine wpAnyH_take (i := 4) (oi := { dst := some 77, op := Op.indexAddr 23 (Operand.tmp 75) (Operand.tmp 76), type := 0, pos := "ref.go:169", after := #[{ on := 2, ground := Ground.data }, { on := 3, ground := Ground.data }], guard := none }) (v := .pointer (some ⟨b, o + k, none⟩)) rfl (by kernel_rfl) (by kernel_rfl) (by kernel_rfl) (fun _ _ _ h => h) (Or.inl ⟨by rfl, ?tky⟩) hH ?tkr
                  case tky =>
                    intro w' hS'
                    have s0 := block_cell hS'.1
                    have s1 := hS'.2.1
                    have s2 := hS'.2.2.1
                    obtain ⟨c0, c1, c2, c3, c4, c5, c6, c7, c8, c9, c10⟩ := val_cells hS'.2.2.2
                    go_simp
                    try (intro hcon; exfalso; omega)
                  case tkr =>
                  simp only [Act.put, List.setIfInBounds_toArray, List.set_cons_zero, List.set_cons_succ]
                  refine wpAnyH_take (i := 5) (oi := { dst := some 78, op := Op.load 35 (Operand.tmp 77), type := 35, pos := "ref.go:169", after := #[{ on := 4, ground := Ground.data }], guard := none }) (v := .slice (some ⟨bx, ox, none⟩) nc capx) rfl (by kernel_rfl) (by kernel_rfl) (by kernel_rfl) (fun _ _ _ h => h) (Or.inl ⟨by rfl, ?tky⟩) hH ?tkr
                  case tky =>
                    intro w' hS'
                    have s0 := block_cell hS'.1
                    have s1 := hS'.2.1
                    have s2 := hS'.2.2.1
                    obtain ⟨c0, c1, c2, c3, c4, c5, c6, c7, c8, c9, c10⟩ := val_cells hS'.2.2.2
                    go_simp
                    try (intro hcon; exfalso; omega)
                  case tkr =>
                  simp only [Act.put, List.setIfInBounds_toArray, List.set_cons_zero, List.set_cons_succ]
                  refine wpAnyH_take (i := 6) (oi := { dst := some 79, op := Op.fieldAddr 25 (Operand.tmp 2) 0, type := 0, pos := "ref.go:169", after := #[], guard := none }) (v := .pointer (some ⟨w.heap.size, 0, none⟩)) rfl (by kernel_rfl) (by kernel_rfl) (by kernel_rfl) (fun _ _ _ h => h) (Or.inl ⟨by rfl, ?tky⟩) hH ?tkr
                  case tky =>
                    intro w' hS'
                    have s0 := block_cell hS'.1
                    have s1 := hS'.2.1
                    have s2 := hS'.2.2.1
                    obtain ⟨c0, c1, c2, c3, c4, c5, c6, c7, c8, c9, c10⟩ := val_cells hS'.2.2.2
                    go_simp
                    try (intro hcon; exfalso; omega)
                  case tkr =>
                  simp only [Act.put, List.setIfInBounds_toArray, List.set_cons_zero, List.set_cons_succ]
                  refine wpAnyH_take (i := 7) (oi := { dst := some 80, op := Op.load 22 (Operand.tmp 79), type := 22, pos := "ref.go:169", after := #[{ on := 6, ground := Ground.data }], guard := none }) (v := .slice pc nc capc) rfl (by kernel_rfl) (by kernel_rfl) (by kernel_rfl) (fun _ _ _ h => h) (Or.inl ⟨by rfl, ?tky⟩) hH ?tkr
                  case tky =>
                    intro w' hS'
                    have s0 := block_cell hS'.1
                    have s1 := hS'.2.1
                    have s2 := hS'.2.2.1
                    obtain ⟨c0, c1, c2, c3, c4, c5, c6, c7, c8, c9, c10⟩ := val_cells hS'.2.2.2
                    go_simp
                    try (intro hcon; exfalso; omega)
                  case tkr =>
                  simp only [Act.put, List.setIfInBounds_toArray, List.set_cons_zero, List.set_cons_succ]
                  refine wpAnyH_take (i := 8) (oi := { dst := some 81, op := Op.move (Operand.tmp 1), type := 39, pos := "ref.go:169", after := #[], guard := none }) (v := .slice (some ⟨bn, on, none⟩) j capn) rfl (by kernel_rfl) (by kernel_rfl) (by kernel_rfl) (fun _ _ _ h => h) (Or.inl ⟨by rfl, ?tky⟩) hH ?tkr
                  case tky =>
                    intro w' hS'
                    have s0 := block_cell hS'.1
                    have s1 := hS'.2.1
                    have s2 := hS'.2.2.1
                    obtain ⟨c0, c1, c2, c3, c4, c5, c6, c7, c8, c9, c10⟩ := val_cells hS'.2.2.2
                    go_simp
                    try (intro hcon; exfalso; omega)
                  case tkr =>
                  simp only [Act.put, List.setIfInBounds_toArray, List.set_cons_zero, List.set_cons_succ]
                  refine wpAnyH_take (i := 9) (oi := { dst := some 82, op := Op.move (Operand.tmp 12), type := 3, pos := "ref.go:169", after := #[], guard := none }) (v := .int .i64 m) rfl (by kernel_rfl) (by kernel_rfl) (by kernel_rfl) (fun _ _ _ h => h) (Or.inl ⟨by rfl, ?tky⟩) hH ?tkr
                  case tky =>
                    intro w' hS'
                    have s0 := block_cell hS'.1
                    have s1 := hS'.2.1
                    have s2 := hS'.2.2.1
                    obtain ⟨c0, c1, c2, c3, c4, c5, c6, c7, c8, c9, c10⟩ := val_cells hS'.2.2.2
                    go_simp
                    try (intro hcon; exfalso; omega)
                  case tkr =>
                  simp only [Act.put, List.setIfInBounds_toArray, List.set_cons_zero, List.set_cons_succ]
                  refine wpAnyH_take (i := 10) (oi := { dst := some 83, op := Op.indexAddr 39 (Operand.tmp 81) (Operand.tmp 82), type := 0, pos := "ref.go:169", after := #[{ on := 8, ground := Ground.data }, { on := 9, ground := Ground.data }], guard := none }) (v := .pointer (some ⟨bn, on + m, none⟩)) rfl (by kernel_rfl) (by kernel_rfl) (by kernel_rfl) (fun _ _ _ h => h) (Or.inl ⟨by rfl, ?tky⟩) hH ?tkr
                  case tky =>
                    intro w' hS'
                    have s0 := block_cell hS'.1
                    have s1 := hS'.2.1
                    have s2 := hS'.2.2.1
                    obtain ⟨c0, c1, c2, c3, c4, c5, c6, c7, c8, c9, c10⟩ := val_cells hS'.2.2.2
                    go_simp
                    try (intro hcon; exfalso; omega)
                  case tkr =>
                  simp only [Act.put, List.setIfInBounds_toArray, List.set_cons_zero, List.set_cons_succ]
                  refine wpAnyH_take (i := 11) (oi := { dst := some 84, op := Op.load 9 (Operand.tmp 83), type := 9, pos := "ref.go:169", after := #[{ on := 10, ground := Ground.data }], guard := none }) (v := .string nm) rfl (by kernel_rfl) (by kernel_rfl) (by kernel_rfl) (fun _ _ _ h => h) (Or.inl ⟨by rfl, ?tky⟩) hH ?tkr
                  case tky =>
                    intro w' hS'
                    have s0 := block_cell hS'.1
                    have s1 := hS'.2.1
                    have s2 := hS'.2.2.1
                    obtain ⟨c0, c1, c2, c3, c4, c5, c6, c7, c8, c9, c10⟩ := val_cells hS'.2.2.2
                    go_simp
                    try (intro hcon; exfalso; omega)
                  case tkr =>
                  simp only [Act.put, List.setIfInBounds_toArray, List.set_cons_zero, List.set_cons_succ]
                  refine wpAnyH_ready (rs := [12]) (by kernel_rfl) (by simp) ?_
                  refine AllReadyH.cons (o := { dst := some 85, op := Op.call { callee := Callee.value (Operand.func 16), args := #[Operand.tmp 80, Operand.tmp 84], argTypes := #[22, 9] }, type := 3, pos := "ref.go:169", after := #[{ on := 7, ground := Ground.data }, { on := 11, ground := Ground.data }], guard := none }) rfl (fun K hK => ?_) AllReadyH.nil
                  refine step_call2 rfl (.tmp 80) (.tmp 84) 22 9 rfl (by simp [Act.eval]; try rfl) (by simp [Act.eval]; try rfl) (fun _ _ => by kernel_rfl) ((rfind_is (HCm.out.on (Below.refl wr.heap.size wr).drew) HPm.out).mono ?_)
                  rintro e w4 ⟨rfl, hb4⟩
                  refine ⟨_, rfl, ?_⟩
                  have HB4 := hid (below_on (Below.refl wr.heap.size wr).drew hb4)
                  clear hb4
                  refine hK.out _ _ ⟨block_on K0m.out HB4.out, cell_on hdm HB4.out, cell_on hnm HB4.out, HXm.out.on HB4.out⟩ (fun hH => ?_)
                  clear hK
                  simp only [Act.put, List.setIfInBounds_toArray, List.set_cons_zero, List.set_cons_succ]
                  refine wpAnyH_take (i := 13) (oi := { dst := some 86, op := Op.indexAddr 35 (Operand.tmp 78) (Operand.tmp 85), type := 0, pos := "ref.go:169", after := #[{ on := 5, ground := Ground.data }, { on := 12, ground := Ground.data }], guard := none }) (v := .pointer (some ⟨bx, ox + p * 11, none⟩)) rfl (by kernel_rfl) (by kernel_rfl) (by kernel_rfl) (fun _ _ _ h => h) (Or.inl ⟨by rfl, ?tky⟩) hH ?tkr
                  case tky =>
                    intro w' hS'
                    have s0 := block_cell hS'.1
                    have s1 := hS'.2.1
                    have s2 := hS'.2.2.1
                    obtain ⟨c0, c1, c2, c3, c4, c5, c6, c7, c8, c9, c10⟩ := val_cells hS'.2.2.2
                    go_simp
                    try (intro hcon; exfalso; omega)
                  case tkr =>
                  simp only [Act.put, List.setIfInBounds_toArray, List.set_cons_zero, List.set_cons_succ]
                  refine wpAnyH_take (i := 14) (oi := { dst := some 87, op := Op.load 48 (Operand.tmp 86), type := 48, pos := "ref.go:169", after := #[{ on := 13, ground := Ground.data }], guard := none }) (v := x.val) rfl (by kernel_rfl) (by kernel_rfl) (by kernel_rfl) (fun _ _ _ h => h) (Or.inl ⟨by rfl, ?tky⟩) hH ?tkr
                  case tky =>
                    intro w' hS'
                    have s0 := block_cell hS'.1
                    have s1 := hS'.2.1
                    have s2 := hS'.2.2.1
                    obtain ⟨c0, c1, c2, c3, c4, c5, c6, c7, c8, c9, c10⟩ := val_cells hS'.2.2.2
                    go_simp
                    try (intro hcon; exfalso; omega)
                  case tkr =>
                  simp only [Act.put, List.setIfInBounds_toArray, List.set_cons_zero, List.set_cons_succ]
                  refine wpAnyH_ready (rs := [15]) (by kernel_rfl) (by simp) ?_
                  refine AllReadyH.cons (o := { dst := some 88, op := Op.buildSlice 35 1 #[(0, Operand.tmp 87)], type := 35, pos := "ref.go:169", after := #[{ on := 14, ground := Ground.data }], guard := none }) rfl (fun K hK => ?_) AllReadyH.nil
                  go_simp
                  refine hK.out _ _ ⟨blk_on hH.1 _, cell_on hH.2.1 (below_al w4 _), cell_on hH.2.2.1 (below_al w4 _), hH.2.2.2.on (below_al w4 _)⟩ (fun hH => ?_)
                  clear hK
                  refine wpAnyH_ready (rs := [16]) (by kernel_rfl) (by simp) ?_
                  refine AllReadyH.cons (o := { dst := some 89, op := Op.call { callee := Callee.builtin Builtin.append, args := #[Operand.tmp 73, Operand.tmp 88], argTypes := #[35, 35] }, type := 35, pos := "ref.go:169", after := #[{ on := 0, ground := Ground.data }, { on := 15, ground := Ground.data }, { on := 12, ground := Ground.chain }], guard := none }) rfl (fun K hK => ?_) AllReadyH.nil
                  refine step_val (x := x) rfl (.tmp 73) (.tmp 88) rfl (by simp [Act.eval]; try rfl) (by simp [Act.eval]; try rfl) ((HOm.out.on HB4.out).on (below_al w4 _)) (alloc_block w4 _) rfl (by simp; omega) (by have := HBm.out.size; have := HB4.out.size; simp; omega) ?_
                  intro v5 w5 hown5 hb5 hg5
                  have HO5 := hid hown5
                  have HB5 := hid hb5
                  clear hown5 hb5 hg5
                  refine hK.out _ _ ⟨(HB5.out.block w.heap.size (by omega)).trans hH.1, (HB5.out.cell (p := ⟨b, o + k, none⟩) (by show b < _; omega)).trans hH.2.1, (HB5.out.cell (p := ⟨bn, on + m, none⟩) (by show bn < _; omega)).trans hH.2.2.1, fun i u hu => (HB5.out.cell (p := ⟨bx, ox + p * 11 + i, none⟩) (by show bx < _; omega)).trans (hH.2.2.2 i u hu)⟩ (fun hH => ?_)
                  clear hK
                  simp only [Act.put, List.setIfInBounds_toArray, List.set_cons_zero, List.set_cons_succ]
                  refine wpAnyH_ready (rs := [17]) (by kernel_rfl) (by simp) ?_
                  refine AllReadyH.cons (o := { dst := some 11, op := Op.assign (Operand.tmp 89), type := 35, pos := "ref.go:169", after := #[{ on := 16, ground := Ground.data }, { on := 16, ground := Ground.chain }, { on := 0, ground := Ground.phase }, { on := 1, ground := Ground.phase }, { on := 2, ground := Ground.phase }, { on := 3, ground := Ground.phase }, { on := 4, ground := Ground.phase }, { on := 5, ground := Ground.phase }, { on := 6, ground := Ground.phase }, { on := 7, ground := Ground.phase }, { on := 8, ground := Ground.phase }, { on := 9, ground := Ground.phase }, { on := 10, ground := Ground.phase }, { on := 11, ground := Ground.phase }, { on := 12, ground := Ground.phase }, { on := 13, ground := Ground.phase }, { on := 14, ground := Ground.phase }, { on := 15, ground := Ground.phase }, { on := 16, ground := Ground.phase }], guard := none }) rfl (fun K hK => ?_) AllReadyH.nil
                  go_simp
                  refine hK.out _ _ hH (fun hH => ?_)
                  clear hK
                  refine wpAnyH_done (by kernel_rfl) ?_ _
                  go_wp2
                  go_roundw
                  case rel => exact ⟨m + 1, _, rfl, by omega, by go_num, by rw [HPT.out]; exact HO5.out, HBm.out.trans ((HB4.out.mono HBm.out.size).trans (((below_al w4 _).mono (Nat.le_trans HBm.out.size HB4.out.size)).trans HB5.out))⟩
                  case measure => simp [intOf]; omega
                · obtain rfl : m = j := by omega
                  have hrowl : (ps.map fun p => r0[p]!).length = m := by simp [hpl]
                  have htj : ps.take m = ps := List.take_of_length_le (by rw [hpl]; exact Nat.le_refl _)
                  rw [htj] at HOm
                  obtain ⟨pv, capv, hv, -⟩ := Own.sl HOm.out vl_len (bnd11 (by rw [hrowl]; omega))
                  rw [hrowl] at hv
                  subst hv
                  have kTa := block_cell (block_on HKT.out HBm.out)
                  have kTb := block_cell (blk_on (block_on HKT.out HBm.out) (.cells #[.slice pv m capv] 35))
                  have hszm := HBm.out.size
                  clear htj
                  go_wp2_with (first | (at_builtin; refine app_all elem35 one_len (ys := [.slice pv m capv]) (fun y hy c hc => by simp [one] at hy hc; subst hc; subst hy; rfl) rfl _ _ rfl rfl (HO.out.on (below_on HBm.out (below_al wr _))) rfl (lit_sl (alloc_block wr _) one_len rfl rfl (Nat.le_refl _) (by simp)) (small1 (by simp; omega)) (by simp; omega) ?_; intro v3 w3 hown3 hb3 hg3; have HO3 := hid hown3; have HB3 := hid hb3; have HG3 := hid hg3; have KT3 : Hid (w3.heap[w1.heap.size]? = _) := (hb3.block w1.heap.size (by omega)).trans (block_on HKT.out (below_on HBm.out (below_al wr _))); have kT3 := block_cell KT3.out; have fT3 := frozen_no KT3.out; obtain ⟨g', cap3, rfl⟩ := Joins.ownsRow_form hown3 (by simp); clear hown3 hb3 hg3; have e1 : (hs' ++ [Value.slice pv m capv]).length = k + 1 := (by simp [hlen]); rw [e1] at HO3; rw [e1]))
                  go_roundw
                  case rel =>
                    have hal := below_on HBm.out (below_al wr (.cells #[.slice pv m capv] 35))
                    have hal2 := below_al wr (.cells #[.slice pv m capv] 35)
                    have HR2 := own_row HOm.out (bnd11 (by rw [hrowl]; omega)) (B' := w.heap.size) HBw.out.size
                    obtain ⟨q0, q1, q2, q3, q4⟩ := row_more2 (T := w1.heap.size) (B := w.heap.size) (r := ps.map fun p => r0[p]!) (by omega) hszr HKT.out HO.out HHr.out hal ((HR2.on hal2).imp (fun b hb => ty_on hb hal2)) HO3.out HB3.out HG3.out
                    exact ⟨k + 1, _, _, by omega, by go_num, e1, q0, q1, q3, by rw [HTK.out, List.map_append]; exact q4, ((HCV.out.on hal).onB HB3.out (fun b hb => hb.2)).set (fun b hb => by omega), below_set (HB.out.trans ((hal.mono HB.out.size).trans (HB3.out.mono (by omega)))) (Nat.le_refl _)⟩
                  case measure => simp [intOf]; omega
            · obtain rfl : k = nr := by omega
              have htk : rs.take k = rs := List.take_of_length_le (by rw [← HH.out.1, HNR.out]; exact Nat.le_refl _)
              rw [htk] at HHr
              have kT := block_cell HKT.out
              have HQ : Hid (HeadsIn (fun b => b < wr.heap.size ∧ b ≠ w.heap.size + 1) wr hs' (rs.map fun r => ps.map fun p => r[p]!)) := HHr.out.imp (fun b hb => by
                obtain ⟨hB, c, fz, hc⟩ := hb
                refine ⟨lt_of_block hc, fun e => ?_⟩
                subst e
                rw [KRr.out] at hc
                cases hc)
              have HSR : Hid (SlAt any one 1 wr rv hs') := (Own.sl HO.out one_len (small1 (by have := HNR.out; have := HH.out.1; omega))).imp (fun _ _ => trivial)
              have HCV2 : Hid (ColsAt wr cv (ps.map fun p => cs[p]!)) := HCV.out.imp (fun _ _ => trivial)
              clear htk
              go_wp2_with (first | (go_at_call 19; refine (rcanon_q (fun b hb => hb.1) HCV2.out HSR.out HQ.out).mono ?_; rintro e w4 ⟨c', r', hs2, rfl, h1, h2, h3, hb4⟩; obtain ⟨pq, cq, hcq, -⟩ := id h1; obtain ⟨pq2, cq2, hcq2, -⟩ := id h2; generalize (List.map (fun p => cs[p]!) ps).length = L1 at hcq; generalize hs2.length = L2 at hcq2; subst hcq; subst hcq2; have H1 := hid h1; have H2 := hid h2; have H3 := hid h3; have HB4 := hid hb4; have KR := hid (block_on KRr.out hb4); have kr := block_cell KR.out; have fr := frozen_no KR.out; clear h1 h2 h3 hb4))
              refine bodyPost_ret (v := .tuple #[.agg #[.slice pq L1 cq, .slice pq2 L2 cq2], .int .i64 0]) ?_ rfl ⟨_, by rw [HE0.out], ?_, below_set (below_set (below_on HBw.out HB4.out) (by omega)) (by omega)⟩
              · have KF := Joins.block_setCell (i := 1) (Joins.block_setCell (i := 0) KR.out (.slice pq L1 cq)) (.slice pq2 L2 cq2)
                clear kr fr
                generalize ((w4.setCell ⟨w.heap.size + 1, 0, none⟩ (.slice pq L1 cq)).setCell ⟨w.heap.size + 1, 1, none⟩ (.slice pq2 L2 cq2)) = WF at KF ⊢
                have kcf := block_cell KF
                clear KF
                simp [results, Try.results25, go_sem, kcf]
              · rw [HC0.out, HR0.out]
                exact ⟨_, _, rfl, ((H1.out.set (fun b hb => by omega)).set (fun b hb => by omega)).imp (fun _ _ => trivial), hs2, ((H2.out.set (fun b hb => by omega)).set (fun b hb => by omega)).imp (fun _ _ => trivial), ((H3.out.set (fun b hb => hb.2)).set (fun b hb => hb.2)).imp (fun _ _ => trivial)⟩
  · have hne : (ch != 0) = true := by simpa using hz
    have hne' : (ch == 0) = false := by simpa using hz
    have hkE : keepE cs rs ns = ch := by unfold keepE; rw [HCH.out, if_neg hz]
    have hkC : keepC cs rs ns = [] := by unfold keepC; rw [hkE, if_neg hz]
    have hkR : keepR cs rs ns = [] := by unfold keepR; rw [hkE, if_neg hz]
    rw [hkE, hkC, hkR]
    clear hkE hkC hkR hz hch
    go_enter Try.func25, Try.ntmps25
    go_wp2_with (first | (go_at_call 12; refine (rcheck_is (HS.out.on HE.out) HCH.out).mono ?_; rintro e w1 ⟨rfl, hb1⟩; have HB1 := hid (below_on HE.out hb1); have KR := hid (block_on K4.out hb1); have kr := block_cell KR.out; have fr := frozen_no KR.out; clear hb1))
    refine bodyPost_ret (v := .tuple #[.agg #[.slice none 0 0, .slice none 0 0], .int .i64 ch]) ?_ rfl ⟨_, rfl, nil_tab _, below_set (below_set HB1.out (by omega)) (by omega)⟩
    have KF := Joins.block_setCell (i := 1) (Joins.block_setCell (i := 0) KR.out (.slice none 0 0)) (.slice none 0 0)
    clear kr fr
    generalize ((w1.setCell ⟨w.heap.size + 1, 0, none⟩ (.slice none 0 0)).setCell ⟨w.heap.size + 1, 1, none⟩ (.slice none 0 0)) = WF at KF ⊢
    have kcf := block_cell KF
    clear KF
    simp [results, Try.results25, go_sem, kcf]
end Go.Proofs.Ytoadamimfhjoiaa
