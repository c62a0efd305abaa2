/-
  The walk of catchmentlaw05.SchemaChecks, where no schema has more than a million columns.
-/
import Derived.Test.YtjfholofgohcjaaQSFitsW
import Derived.Test.YtjfholofgohcjaaQSRef4
namespace Go.Proofs.Ytjfholofgohcjaa
open Go.RowKit Go.Sort Go.Shelf

theorem step_callC2 {ops : Array Oper} {o : Oper} {a : Act} {w : World} {K : Act → World → Prop} {Q : Exit → Act → World → Prop} {E : Prop} {f : FuncId} {v v2 : Value} (hgd : o.guard = none) (x y : Operand) (t t2 : TypeId)
    (ho : o.op = .call { callee := .value (.func f), args := #[x, y], argTypes := #[t, t2] }) (hx : a.eval x = v) (hy : a.eval y = v2) (hen : ∀ args w, (callFunc f args).run Try.prog w = .ok (.enter f args) w)
    (hc : Calls Try.prog f #[v, v2] w fun e w' => ∃ u, e = .returned u ∧ K (a.put o.dst u) w') : if Region.wanted o (yielded ops a.tmps) = true then Oper.wp Try.prog o a w K Q else E := by
  have hw : Region.wanted o (yielded ops a.tmps) = true := by simp [Region.wanted, hgd]
  rw [if_pos hw]
  unfold Oper.wp
  have hr : (execOp a.eval o).run Try.prog w = .ok (.enter f #[v, v2]) w := by
    simp [execOp, ho, resolve, invoke, hen, go_sem]
    rw [← hx, ← hy]
    cases x <;> cases y <;> simp [Act.eval]
  rw [hr, Oper.upon_enter]
  refine hc.mono ?_
  rintro e w' ⟨u, rfl, hk⟩
  exact hk
def zeroS : Sc := ⟨⟨#[]⟩, [], [], by decide⟩
def pickS (l : List Sc) (nm : ByteArray) : Sc := if atS l nm < 0 then zeroS else l[(atS l nm).toNat]!
def FoundU (w : World) (s : Sc) (b : Bool) (e : Ending) (w' : World) : Prop := ∃ pk nk ck pv nv cv, e = .returned (.tuple #[.agg #[.string s.nm, .slice pk nk ck, .slice pv nv cv], .bool b]) ∧ ColsAt w' (.slice pk nk ck) s.ks ∧ ColsAt w' (.slice pv nv cv) s.vs ∧ Below w.heap.size w w'
theorem Found.u {w : World} {l : List Sc} {nm : ByteArray} {e : Ending} {w' : World} (h : Found w l nm e w') : FoundU w (pickS l nm) (decide (0 ≤ atS l nm)) e w' := by
  by_cases hn : atS l nm < 0
  · obtain ⟨rfl, hb⟩ := h.none hn
    rw [pickS, if_pos hn, decide_eq_false (by omega)]
    exact ⟨_, _, _, _, _, _, rfl, SlAt.nil _ _ _ _, SlAt.nil _ _ _ _, hb⟩
  · obtain ⟨j, hj, hat⟩ := at_nat hn
    obtain ⟨⟨u, rfl, hs⟩, hb⟩ := h.some hat
    obtain ⟨pk, nk, ck, pv, nv, cv, rfl, h1, h2⟩ := sc_form hs
    rw [pickS, if_neg hn, decide_eq_true (by omega), hat, Int.toNat_natCast]
    exact ⟨_, _, _, _, _, _, rfl, h1, h2, hb⟩
theorem sfind_u {v : Value} {l : List Sc} {nm : ByteArray} {w : World} {s : Sc} {b : Bool} (hv : SchsAt w v l) (h1 : pickS l nm = s) (h2 : decide (0 ≤ atS l nm) = b) : Calls Try.prog 31 #[v, .string nm] w (FoundU w s b) := by
  rw [← h1, ← h2]; exact (sfind_any hv).mono fun _ _ h => h.u
theorem rfind_u {v : Value} {l : List Sc} {nm : ByteArray} {w : World} {s : Sc} {b : Bool} (hv : SchsAt w v l) (h1 : pickS l nm = s) (h2 : decide (0 ≤ atS l nm) = b) : Calls Try.prog 32 #[v, .string nm] w (FoundU w s b) := by
  rw [← h1, ← h2]; exact (rsfind_any hv).mono fun _ _ h => h.u
theorem pick_len {l : List Sc} {nm : ByteArray} {M : Nat} (h : ∀ s ∈ l, s.ks.length + s.vs.length ≤ M) : (pickS l nm).ks.length + (pickS l nm).vs.length ≤ M := by
  unfold pickS
  by_cases hn : atS l nm < 0
  · rw [if_pos hn]; exact Nat.zero_le _
  · rw [if_neg hn]
    obtain ⟨j, hj, hat⟩ := at_nat hn
    rw [hat, Int.toNat_natCast, getElem!_pos l j hj]
    exact h _ (List.getElem_mem hj)
theorem sameS_self (s : Sc) : sameS s s = true := by simp [sameS]
abbrev C6 (b1 b2 : Nat) (n1 a1 v1 n2 a2 v2 : Value) (w : World) : Prop := (w.cell? ⟨b1, 0, none⟩ = some n1 ∧ w.cell? ⟨b1, 1, none⟩ = some a1 ∧ w.cell? ⟨b1, 2, none⟩ = some v1) ∧ (w.cell? ⟨b2, 0, none⟩ = some n2 ∧ w.cell? ⟨b2, 1, none⟩ = some a2 ∧ w.cell? ⟨b2, 2, none⟩ = some v2)
theorem c6D {w : World} {b1 b2 : Nat} {n1 a1 v1 n2 a2 v2 : Value} (h : C6 b1 b2 n1 a1 v1 n2 a2 v2 w) : C6 b1 b2 n1 a1 v1 n2 a2 v2 w.drew := h
set_option maxRecDepth 100000 in
set_option maxHeartbeats 4000000 in
/- From the look for a name on: any slice of schemas. -/
theorem schemaChecks_any {v : Value} {l : List Sc} {nm : ByteArray} {w : World} (hv : SchsAt w v l) (hs : nm.size ≤ maxLen) (hM : ∀ s ∈ l, s.ks.length + s.vs.length ≤ 3000000) :
    Calls Try.prog 8 #[v, .string nm] w fun e w' => e = .returned (.bool true) ∧ Below w.heap.size w w' := by
  have HV := hid hv
  have HSZ := hid hs
  obtain ⟨hds, ⟨q, cap, rfl, ⟨hcap, -⟩, hmax, -⟩, -⟩ := hv
  unfold maxLen at hmax
  generalize hds.length = n at *
  clear hs
  have eg1 : ∀ args w, (callFunc 35 args).run Try.prog w = .ok (.enter 35 args) w := enters_of Try.func35 (by kernel_rfl) rfl
  have eg2 : ∀ args w, (callFunc 36 args).run Try.prog w = .ok (.enter 36 args) w := enters_of Try.func36 (by kernel_rfl) rfl
  have eg3 : ∀ args w, (callFunc 34 args).run Try.prog w = .ok (.enter 34 args) w := enters_of Try.func34 (by kernel_rfl) rfl
  have EG1 := hid eg1
  have EG2 := hid eg2
  have EG3 := hid eg3
  clear eg1 eg2 eg3
  have key : ∃ (k : Nat) (l' : List Sc), Hid (SchsAt w (.slice q k cap) l') ∧ Hid (∀ s ∈ l', s.ks.length + s.vs.length ≤ 3000000) ∧ ((20 < n ∧ k = 20) ∨ (¬ 20 < n ∧ k = n)) := by
    by_cases hn : 20 < n
    · exact ⟨20, l.take 20, HV.out.take 20 (by omega), fun s h => hM s (List.mem_of_mem_take h), .inl ⟨hn, rfl⟩⟩
    · exact ⟨n, l, HV.out, hM, .inr ⟨hn, rfl⟩⟩
  obtain ⟨k, l', HV', HM', hcase⟩ := key
  clear hM HV
  generalize hp : pickS l' nm = s
  generalize hb : decide (0 ≤ atS l' nm) = bb
  have HP := hid hp
  have HBB := hid hb
  have HLN : Hid (s.ks.length + s.vs.length ≤ 3000000) := by show _ ≤ _; rw [← hp]; exact pick_len HM'.out
  generalize hw : wordB nm = wd
  have HWD := hid hw
  generalize hc : checkS l' = cz
  have HCZ := hid hc
  clear hp hb hw hc
  have M1 : Hid True := trivial
  rcases hcase with ⟨hn, rfl⟩ | ⟨hn, rfl⟩
  · have g : (20 : Int) < (n : Int) := by omega
    go_enter Try.func8, Try.ntmps8
    go_wp2_with (first
      | (go_at_call 30; refine shown5_any.mono ?_; rintro e w1 ⟨rfl, hb1⟩; have HB1 := hid hb1; clear hb1)
      | (go_at_call 31; refine (sfind_u (HV'.out.on HB1.out) HP.out HBB.out).mono ?_; rintro e w2 ⟨ak, ak2, ak3, av, av2, av3, rfl, g1, g2, hb2⟩; have HB2 := hid ((below_on HB1.out hb2).alloc (below_on HB1.out hb2).size (.cells #[.string s.nm, .slice ak ak2 ak3, .slice av av2 av3] 56)); have K2 := hid (alloc_block w2 (.cells #[.string s.nm, .slice ak ak2 ak3, .slice av av2 av3] 56)); have G1 := hid (ColsAt.on g1 ((Below.refl _ _).alloc (Nat.le_refl _) (.cells #[.string s.nm, .slice ak ak2 ak3, .slice av av2 av3] 56))); have G2 := hid (ColsAt.on g2 ((Below.refl _ _).alloc (Nat.le_refl _) (.cells #[.string s.nm, .slice ak ak2 ak3, .slice av av2 av3] 56))); clear g1 g2 hb2)
      | (go_at_call 32; refine (rfind_u (HV'.out.on HB2.out) HP.out HBB.out).mono ?_; rintro e w3 ⟨bk, bk2, bk3, bv, bv2, bv3, rfl, g3, g4, hb3⟩; have HB3 := hid ((below_on HB2.out hb3).alloc (below_on HB2.out hb3).size (.cells #[.string s.nm, .slice bk bk2 bk3, .slice bv bv2 bv3] 56)); have K3 := hid (blk_upS (block_on K2.out hb3) (.cells #[.string s.nm, .slice bk bk2 bk3, .slice bv bv2 bv3] 56)); have K4 := hid (alloc_block w3 (.cells #[.string s.nm, .slice bk bk2 bk3, .slice bv bv2 bv3] 56)); have G3 := hid (ColsAt.on g3 ((Below.refl _ _).alloc (Nat.le_refl _) (.cells #[.string s.nm, .slice bk bk2 bk3, .slice bv bv2 bv3] 56))); have G4 := hid (ColsAt.on g4 ((Below.refl _ _).alloc (Nat.le_refl _) (.cells #[.string s.nm, .slice bk bk2 bk3, .slice bv bv2 bv3] 56))); have G5 := hid (ColsAt.on (ColsAt.on G1.out hb3) ((Below.refl _ _).alloc (Nat.le_refl _) (.cells #[.string s.nm, .slice bk bk2 bk3, .slice bv bv2 bv3] 56))); have G6 := hid (ColsAt.on (ColsAt.on G2.out hb3) ((Below.refl _ _).alloc (Nat.le_refl _) (.cells #[.string s.nm, .slice bk bk2 bk3, .slice bv bv2 bv3] 56))); have kk3 := block_cell K3.out; have hlb := lt_of_block (block_on K2.out hb3); clear g3 g4 hb3)
      | (go_at_call 33; refine (same5_is ⟨_, _, rfl, G5.out, G6.out⟩ ⟨_, _, rfl, G3.out, G4.out⟩ (sameS_self s)).mono ?_; rintro e w5 ⟨rfl, hb5⟩; have HB5 := hid hb5; clear hb5))
    have KA := hid (block_on K3.out HB5.out)
    have KC := hid (block_on K4.out HB5.out)
    have SC1 : Hid (ScAt w5 (.agg #[.string s.nm, .slice ak ak2 ak3, .slice av av2 av3]) s) := ⟨_, _, rfl, ColsAt.on G5.out HB5.out, ColsAt.on G6.out HB5.out⟩
    have SC2 : Hid (ScAt w5 (.agg #[.string s.nm, .slice bk bk2 bk3, .slice bv bv2 bv3]) s) := ⟨_, _, rfl, ColsAt.on G3.out HB5.out, ColsAt.on G4.out HB5.out⟩
    have HBW := hid (below_on HB3.out HB5.out)
    have hS0 : C6 w2.heap.size w3.heap.size (.string s.nm) (.slice ak ak2 ak3) (.slice av av2 av3) (.string s.nm) (.slice bk bk2 bk3) (.slice bv bv2 bv3) w5 := ⟨⟨block_cell KA.out 0, block_cell KA.out 1, block_cell KA.out 2⟩, ⟨block_cell KC.out 0, block_cell KC.out 1, block_cell KC.out 2⟩⟩
    have HKB : Hid (∀ x, Below w5.heap.size w5 x → C6 w2.heap.size w3.heap.size (.string s.nm) (.slice ak ak2 ak3) (.slice av av2 av3) (.string s.nm) (.slice bk bk2 bk3) (.slice bv bv2 bv3) x) := fun x h => by
      have h1 := block_on KA.out h
      have h2 := block_on KC.out h
      exact ⟨⟨block_cell h1 0, block_cell h1 1, block_cell h1 2⟩, ⟨block_cell h2 0, block_cell h2 1, block_cell h2 2⟩⟩
    have HDR : Hid (Below w5.heap.size w5 w5.drew) := (Below.refl _ _).drew
    clear kk3 hlb
    generalize w2.heap.size = b1 at *
    generalize w3.heap.size = b2 at *
    go_region_held3 (C6 b1 b2 (.string s.nm) (.slice ak ak2 ak3) (.slice av av2 av3) (.string s.nm) (.slice bk bk2 bk3) (.slice bv bv2 bv3)) (((repeat (with_reducible refine c6D ?_)); (with_reducible assumption)))
      (first
      | (have FIRST := M1; refine step_callC (v := .agg #[.string s.nm, .slice ak ak2 ak3, .slice av av2 av3]) rfl (.tmp 33) 56 rfl (by simp [Act.eval]) EG1.out ?_; refine (scols_any (SC1.out.on HDR.out) HLN.out).mono ?_; rintro e w6 ⟨v6, rfl, hc6, hb6⟩; refine ⟨_, rfl, ?_⟩; have HC6 := hid hc6; have S6 : Hid (Below w5.heap.size w5 w6) := HDR.out.trans hb6; have hS6 := HKB.out w6 S6.out; have M2 : Hid True := trivial; clear hc6 hb6 FIRST M1 hS0)
      | (have FIRST := M2; refine step_callC (v := .agg #[.string s.nm, .slice bk bk2 bk3, .slice bv bv2 bv3]) rfl (.tmp 35) 56 rfl (by simp [Act.eval]) EG2.out ?_; refine (rscols_any (SC2.out.on S6.out) HLN.out).mono ?_; rintro e w7 ⟨v7, rfl, hc7, hb7⟩; refine ⟨_, rfl, ?_⟩; have HC7 := hid hc7; have HC8 := hid (ColsAt.on HC6.out hb7); have S7 : Hid (Below w5.heap.size w5 w7) := below_on S6.out hb7; have hS7 := HKB.out w7 S7.out; have M3 : Hid True := trivial; clear hc7 hb7 FIRST M2 hS6)
      | (have FIRST := M3; refine step_callC2 (v := v6) (v2 := v7) rfl (.tmp 34) (.tmp 36) 22 22 rfl (by simp [Act.eval]) (by simp [Act.eval]) EG3.out ?_; refine (samecols_is HC8.out HC7.out (decide_eq_true rfl)).mono ?_; rintro e w8 ⟨rfl, hb8⟩; refine ⟨_, rfl, ?_⟩; have S8 : Hid (Below w5.heap.size w5 w8) := below_on S7.out hb8; have hS8 := HKB.out w8 S8.out; clear hb8 FIRST M3 hS7))
    clear hS8
    have HB8 := hid (below_on HBW.out S8.out)
    go_wp2_with (first
      | (go_at_call 37; refine (word_call HSZ.out HWD.out).mono ?_; rintro e w' ⟨rfl, rfl⟩)
      | (go_at_call 38; refine (rword_is HSZ.out HWD.out).mono ?_; rintro e w9 ⟨rfl, hb9⟩; have HB9 := hid (below_on HB8.out hb9); clear hb9)
      | (go_at_call 39; refine (scheck_is (HV'.out.on HB9.out) HCZ.out).mono ?_; rintro e w10 ⟨rfl, hb10⟩; have HB10 := hid (below_on HB9.out hb10); clear hb10)
      | (go_at_call 40; refine (rscheck_is (HV'.out.on HB10.out) HCZ.out).mono ?_; rintro e w11 ⟨rfl, hb11⟩; have HB11 := hid (below_on HB10.out hb11); clear hb11))
    go_ret
    exact ⟨by simp, HB11.out⟩
  · have g : ¬ (20 : Int) < (k : Int) := by omega
    go_enter Try.func8, Try.ntmps8
    go_wp2_with (first
      | (go_at_call 30; refine shown5_any.mono ?_; rintro e w1 ⟨rfl, hb1⟩; have HB1 := hid hb1; clear hb1)
      | (go_at_call 31; refine (sfind_u (HV'.out.on HB1.out) HP.out HBB.out).mono ?_; rintro e w2 ⟨ak, ak2, ak3, av, av2, av3, rfl, g1, g2, hb2⟩; have HB2 := hid ((below_on HB1.out hb2).alloc (below_on HB1.out hb2).size (.cells #[.string s.nm, .slice ak ak2 ak3, .slice av av2 av3] 56)); have K2 := hid (alloc_block w2 (.cells #[.string s.nm, .slice ak ak2 ak3, .slice av av2 av3] 56)); have G1 := hid (ColsAt.on g1 ((Below.refl _ _).alloc (Nat.le_refl _) (.cells #[.string s.nm, .slice ak ak2 ak3, .slice av av2 av3] 56))); have G2 := hid (ColsAt.on g2 ((Below.refl _ _).alloc (Nat.le_refl _) (.cells #[.string s.nm, .slice ak ak2 ak3, .slice av av2 av3] 56))); clear g1 g2 hb2)
      | (go_at_call 32; refine (rfind_u (HV'.out.on HB2.out) HP.out HBB.out).mono ?_; rintro e w3 ⟨bk, bk2, bk3, bv, bv2, bv3, rfl, g3, g4, hb3⟩; have HB3 := hid ((below_on HB2.out hb3).alloc (below_on HB2.out hb3).size (.cells #[.string s.nm, .slice bk bk2 bk3, .slice bv bv2 bv3] 56)); have K3 := hid (blk_upS (block_on K2.out hb3) (.cells #[.string s.nm, .slice bk bk2 bk3, .slice bv bv2 bv3] 56)); have K4 := hid (alloc_block w3 (.cells #[.string s.nm, .slice bk bk2 bk3, .slice bv bv2 bv3] 56)); have G3 := hid (ColsAt.on g3 ((Below.refl _ _).alloc (Nat.le_refl _) (.cells #[.string s.nm, .slice bk bk2 bk3, .slice bv bv2 bv3] 56))); have G4 := hid (ColsAt.on g4 ((Below.refl _ _).alloc (Nat.le_refl _) (.cells #[.string s.nm, .slice bk bk2 bk3, .slice bv bv2 bv3] 56))); have G5 := hid (ColsAt.on (ColsAt.on G1.out hb3) ((Below.refl _ _).alloc (Nat.le_refl _) (.cells #[.string s.nm, .slice bk bk2 bk3, .slice bv bv2 bv3] 56))); have G6 := hid (ColsAt.on (ColsAt.on G2.out hb3) ((Below.refl _ _).alloc (Nat.le_refl _) (.cells #[.string s.nm, .slice bk bk2 bk3, .slice bv bv2 bv3] 56))); have kk3 := block_cell K3.out; have hlb := lt_of_block (block_on K2.out hb3); clear g3 g4 hb3)
      | (go_at_call 33; refine (same5_is ⟨_, _, rfl, G5.out, G6.out⟩ ⟨_, _, rfl, G3.out, G4.out⟩ (sameS_self s)).mono ?_; rintro e w5 ⟨rfl, hb5⟩; have HB5 := hid hb5; clear hb5))
    have KA := hid (block_on K3.out HB5.out)
    have KC := hid (block_on K4.out HB5.out)
    have SC1 : Hid (ScAt w5 (.agg #[.string s.nm, .slice ak ak2 ak3, .slice av av2 av3]) s) := ⟨_, _, rfl, ColsAt.on G5.out HB5.out, ColsAt.on G6.out HB5.out⟩
    have SC2 : Hid (ScAt w5 (.agg #[.string s.nm, .slice bk bk2 bk3, .slice bv bv2 bv3]) s) := ⟨_, _, rfl, ColsAt.on G3.out HB5.out, ColsAt.on G4.out HB5.out⟩
    have HBW := hid (below_on HB3.out HB5.out)
    have hS0 : C6 w2.heap.size w3.heap.size (.string s.nm) (.slice ak ak2 ak3) (.slice av av2 av3) (.string s.nm) (.slice bk bk2 bk3) (.slice bv bv2 bv3) w5 := ⟨⟨block_cell KA.out 0, block_cell KA.out 1, block_cell KA.out 2⟩, ⟨block_cell KC.out 0, block_cell KC.out 1, block_cell KC.out 2⟩⟩
    have HKB : Hid (∀ x, Below w5.heap.size w5 x → C6 w2.heap.size w3.heap.size (.string s.nm) (.slice ak ak2 ak3) (.slice av av2 av3) (.string s.nm) (.slice bk bk2 bk3) (.slice bv bv2 bv3) x) := fun x h => by
      have h1 := block_on KA.out h
      have h2 := block_on KC.out h
      exact ⟨⟨block_cell h1 0, block_cell h1 1, block_cell h1 2⟩, ⟨block_cell h2 0, block_cell h2 1, block_cell h2 2⟩⟩
    have HDR : Hid (Below w5.heap.size w5 w5.drew) := (Below.refl _ _).drew
    clear kk3 hlb
    generalize w2.heap.size = b1 at *
    generalize w3.heap.size = b2 at *
    go_region_held3 (C6 b1 b2 (.string s.nm) (.slice ak ak2 ak3) (.slice av av2 av3) (.string s.nm) (.slice bk bk2 bk3) (.slice bv bv2 bv3)) (((repeat (with_reducible refine c6D ?_)); (with_reducible assumption)))
      (first
      | (have FIRST := M1; refine step_callC (v := .agg #[.string s.nm, .slice ak ak2 ak3, .slice av av2 av3]) rfl (.tmp 33) 56 rfl (by simp [Act.eval]) EG1.out ?_; refine (scols_any (SC1.out.on HDR.out) HLN.out).mono ?_; rintro e w6 ⟨v6, rfl, hc6, hb6⟩; refine ⟨_, rfl, ?_⟩; have HC6 := hid hc6; have S6 : Hid (Below w5.heap.size w5 w6) := HDR.out.trans hb6; have hS6 := HKB.out w6 S6.out; have M2 : Hid True := trivial; clear hc6 hb6 FIRST M1 hS0)
      | (have FIRST := M2; refine step_callC (v := .agg #[.string s.nm, .slice bk bk2 bk3, .slice bv bv2 bv3]) rfl (.tmp 35) 56 rfl (by simp [Act.eval]) EG2.out ?_; refine (rscols_any (SC2.out.on S6.out) HLN.out).mono ?_; rintro e w7 ⟨v7, rfl, hc7, hb7⟩; refine ⟨_, rfl, ?_⟩; have HC7 := hid hc7; have HC8 := hid (ColsAt.on HC6.out hb7); have S7 : Hid (Below w5.heap.size w5 w7) := below_on S6.out hb7; have hS7 := HKB.out w7 S7.out; have M3 : Hid True := trivial; clear hc7 hb7 FIRST M2 hS6)
      | (have FIRST := M3; refine step_callC2 (v := v6) (v2 := v7) rfl (.tmp 34) (.tmp 36) 22 22 rfl (by simp [Act.eval]) (by simp [Act.eval]) EG3.out ?_; refine (samecols_is HC8.out HC7.out (decide_eq_true rfl)).mono ?_; rintro e w8 ⟨rfl, hb8⟩; refine ⟨_, rfl, ?_⟩; have S8 : Hid (Below w5.heap.size w5 w8) := below_on S7.out hb8; have hS8 := HKB.out w8 S8.out; clear hb8 FIRST M3 hS7))
    clear hS8
    have HB8 := hid (below_on HBW.out S8.out)
    go_wp2_with (first
      | (go_at_call 37; refine (word_call HSZ.out HWD.out).mono ?_; rintro e w' ⟨rfl, rfl⟩)
      | (go_at_call 38; refine (rword_is HSZ.out HWD.out).mono ?_; rintro e w9 ⟨rfl, hb9⟩; have HB9 := hid (below_on HB8.out hb9); clear hb9)
      | (go_at_call 39; refine (scheck_is (HV'.out.on HB9.out) HCZ.out).mono ?_; rintro e w10 ⟨rfl, hb10⟩; have HB10 := hid (below_on HB9.out hb10); clear hb10)
      | (go_at_call 40; refine (rscheck_is (HV'.out.on HB10.out) HCZ.out).mono ?_; rintro e w11 ⟨rfl, hb11⟩; have HB11 := hid (below_on HB10.out hb11); clear hb11))
    go_ret
    exact ⟨by simp, HB11.out⟩
end Go.Proofs.Ytjfholofgohcjaa
