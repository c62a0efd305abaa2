/-
  leaf.Scan, its rows told as blocks that may be written.
  Two rows of rows in canonical order, merged: the canonical order of both.
  What the statements' cut (the first rows of a table) returns.
  What the reference's sorted returns, for all rows: their headers in canonical order, in a slice of its own.
  append and a call, each as one step of a region that draws its order.
  What Go's slices.Concat returns of two slices of rows.
-/
import Derived.Test.YtlbjbkhcnafhcaaGreatQTCanon
import Derived.Test.YtlbjbkhcnafhcaaGreatP09Txt
import Derived.Test.YtlbjbkhcnafhcaaGreatP22RCheck
import Derived.Test.YtlbjbkhcnafhcaaGreatP20ShelfSort
import Derived.Deep.RegionLaw
import Derived.Shelf.Spec.SlicesGrow
namespace Go.Proofs.YtlbjbkhcnafhcaaGreat
open Go.RowKit Go.Sort Go.Shelf Go.Maps

def ScT (w : World) (S : List Sc) (pts : List Pt) (nm : ByteArray) (a z : Int) (e : Ending) (w' : World) : Prop :=
  ∃ v, e = .returned (.tuple #[v, .int .i64 (scE S nm)]) ∧ TabY (fun k => w.heap.size ≤ k) w' v (scC S nm) (scR S pts nm a z) ∧ Below w.heap.size w w'
theorem nil_tabY (Q : Nat → Prop) (w : World) : TabY Q w (.agg #[.slice none 0 0, .slice none 0 0]) [] [] := ⟨_, _, rfl, SlAt.nil _ _ _ _, [], SlAt.nil _ _ _ _, HeadsP.nil _ _⟩
theorem tabY_set {Q : Nat → Prop} {w : World} {v u : Value} {cs : List Cl} {rs : List Rw} {z i : Nat} (h : TabY Q w v cs rs) (hq : ∀ g, Q g → g ≠ z) : TabY Q (w.setCell ⟨z, i, none⟩ u) v cs rs := h.set hq
set_option maxRecDepth 100000 in
set_option maxHeartbeats 2000000 in
theorem scan_noneT {B : Nat} {P : Nat → Prop} {w : World} {b : Nat} {S : List Sc} {room : Int} {x : Lx} {pts : List Pt} {nm : ByteArray} {a z : Int} (h : Lf B P w b S room x pts) (hn : atS S nm < 0) :
    Calls Tryz.prog 13 #[dp b, .string nm, .int .i64 a, .int .i64 z] w (ScT w S pts nm a z) := by
  obtain ⟨ps, cs, hsc, hsch⟩ := sc_slice h
  obtain ⟨sv0, m0, l0, hdk⟩ := h.len
  have hB0 := (Below.refl w.heap.size w).alloc (Nat.le_refl _) (.cells #[.slice none 0 0, .slice none 0 0] 44)
  have HB0 := hid hB0
  have KB0 := hid (alloc_block w (.cells #[.slice none 0 0, .slice none 0 0] 44))
  have k0 := block_cell (hdk.on hB0).blk
  have hk0 : (w.alloc (.cells #[.slice none 0 0, .slice none 0 0] 44)).cell? ⟨b, 0, none⟩ = some (.slice ps S.length cs) := by rw [k0 0]; show some x.sc = _; rw [hsc]
  have HSc : Hid (SchsAt (w.alloc (.cells #[.slice none 0 0, .slice none 0 0] 44)) (.slice ps S.length cs) S) := by show SchsAt _ _ _; rw [← hsc]; exact hsch.on hB0
  have HN := hid hn
  have E1 : Hid (scE S nm = 50) := if_pos hn
  have E2 : Hid (scC S nm = []) := if_pos hn
  have E3 : Hid (scR S pts nm a z = []) := if_pos hn
  clear h hsc hsch hdk hB0 k0 hn
  go_enter Tryz.func13, Tryz.ntmps13
  go_wp2_with (first
    | (go_at_call 33; refine (sfind_none HSc.out HN.out).mono ?_; rintro e w1 ⟨rfl, hb1⟩; have HB1 := hid (HB0.out.trans (hb1.mono HB0.out.size)); have KB1 := hid (block_on KB0.out hb1); have k1 := block_cell KB1.out; have f1 := frozen_no KB1.out; have k1a : ∀ (A : Obj) (i : Nat), (w1.alloc A).cell? ⟨w.heap.size, i, none⟩ = (#[.slice none 0 0, .slice none 0 0] : Array Value)[i]? := fun A i => block_cell (block_on KB1.out ((Below.refl _ _).alloc (Nat.le_refl _) A)) i; have f1a : ∀ (A : Obj) (i : Nat), (w1.alloc A).frozen? ⟨w.heap.size, i, none⟩ = false := fun A i => frozen_no (block_on KB1.out ((Below.refl _ _).alloc (Nat.le_refl _) A)) i; clear hb1 hk0))
  have KA := block_on KB1.out ((Below.refl _ _).alloc (Nat.le_refl _) (.cells #[.string ⟨#[]⟩, .slice none 0 0, .slice none 0 0] 52))
  have KF := Joins.block_setCell (i := 1) (Joins.block_setCell (i := 0) KA (.slice none 0 0)) (.slice none 0 0)
  have HBF : Below w.heap.size w (((w1.alloc (.cells #[.string ⟨#[]⟩, .slice none 0 0, .slice none 0 0] 52)).setCell ⟨w.heap.size, 0, none⟩ (.slice none 0 0)).setCell ⟨w.heap.size, 1, none⟩ (.slice none 0 0)) := ((HB1.out.alloc HB1.out.size _).setCell (Nat.le_refl _) _).setCell (Nat.le_refl _) _
  generalize (((w1.alloc (.cells #[.string ⟨#[]⟩, .slice none 0 0, .slice none 0 0] 52)).setCell ⟨w.heap.size, 0, none⟩ (.slice none 0 0)).setCell ⟨w.heap.size, 1, none⟩ (.slice none 0 0)) = WF at KF HBF ⊢
  have kcf := block_cell KF
  clear KF KA k1 f1 k1a f1a
  exact bodyPost_ret (v := .tuple #[.agg #[.slice none 0 0, .slice none 0 0], .int .i64 50]) (by simp [results, Tryz.results13, go_sem, kcf]) rfl ⟨_, by rw [E1.out], by rw [E2.out, E3.out]; exact nil_tabY _ _, HBF⟩
set_option maxRecDepth 100000 in
set_option maxHeartbeats 4000000 in
theorem scan_someT {B : Nat} {P : Nat → Prop} {w : World} {b : Nat} {S : List Sc} {room : Int} {x : Lx} {pts : List Pt} {nm : ByteArray} {a z : Int} {J : Nat} (h : Lf B P w b S room x pts) (hc : checkS S = 0) (hJ : J < S.length) (hn : atS S nm = (J : Int)) (hl : pts.length ≤ 254) (hz : ∀ p ∈ pts, List.length p.ks ≤ 4 ∧ List.length p.vs ≤ 4) :
    Calls Tryz.prog 13 #[dp b, .string nm, .int .i64 a, .int .i64 z] w (ScT w S pts nm a z) := by
  obtain ⟨ps, cs, hsc, hsch⟩ := sc_slice h
  obtain ⟨l, R, hlk, hi⟩ := h.lk
  have hB0 := (Below.refl w.heap.size w).alloc (Nat.le_refl _) (.cells #[.slice none 0 0, .slice none 0 0] 44)
  have HB0 := hid hB0
  have KB0 := hid (alloc_block w (.cells #[.slice none 0 0, .slice none 0 0] 44))
  have k0 := block_cell (hlk.on hB0).dk.blk
  have hk0 : (w.alloc (.cells #[.slice none 0 0, .slice none 0 0] 44)).cell? ⟨b, 0, none⟩ = some (.slice ps S.length cs) := by rw [k0 0]; show some x.sc = _; rw [hsc]
  have HSc : Hid (SchsAt (w.alloc (.cells #[.slice none 0 0, .slice none 0 0] 44)) (.slice ps S.length cs) S) := by show SchsAt _ _ _; rw [← hsc]; exact hsch.on hB0
  have HN := hid hn
  have hn0 : ¬ atS S nm < 0 := by omega
  have E1 : Hid (scE S nm = 0) := if_neg hn0
  have E2 : Hid (scC S nm = colsS S[J]!) := by show _ = _; unfold scC; rw [if_neg hn0, hn, Int.toNat_natCast]
  have E3 : Hid (scR S pts nm a z = sortR (scanR pts nm a z)) := if_neg hn0
  have hmay : mayB S[J]! = true := by rw [getElem!_pos S J hJ]; exact (check_parts0 hc).2.1 _ (List.getElem_mem hJ)
  have HCl : Hid ((S[J]!).ks.length + (S[J]!).vs.length ≤ 3000000) := by
    simp only [mayB, kindsB, Bool.and_eq_true, decide_eq_true_eq] at hmay
    show _ ≤ _; omega
  have HLk := hid hlk
  have HI := hid hi
  have HZ := hid hz
  have HLn : Hid (l.length ≤ 254) := Nat.le_trans hi.l_le hl
  have HPl := hid hl
  generalize hs0 : S[J]! = s at *
  have HS0 := hid hs0
  clear h hsc hsch hB0 k0 hn hn0 hmay hs0 hlk hi hz hl hJ hc
  go_enter Tryz.func13, Tryz.ntmps13
  go_upto_region 4 with (first
    | (go_at_call 33; refine (sfind_some HSc.out HN.out).mono ?_; rintro e w1 ⟨pk, nk, ck, pv, nv, cv, rfl, hck, hcv, hb1⟩; rw [HS0.out] at hck hcv ⊢; have HCk := hid hck; have HCv := hid hcv; have HB1 := hid (HB0.out.trans (hb1.mono HB0.out.size)); have KB1 := hid (block_on KB0.out hb1); clear hb1 hk0 hck hcv))
  have hb2 := (Below.refl w1.heap.size w1).alloc (Nat.le_refl _) (.cells #[.string s.nm, .slice pk nk ck, .slice pv nv cv] 52)
  have HB2 := hid (HB1.out.trans (hb2.mono HB1.out.size))
  have KX := hid (alloc_block w1 (.cells #[.string s.nm, .slice pk nk ck, .slice pv nv cv] 52))
  have KB2 := hid (block_on KB1.out hb2)
  have HCk2 := hid (HCk.out.on hb2)
  have HCv2 := hid (HCv.out.on hb2)
  have HL2 := hid (HLk.out.on HB2.out)
  clear hb2 HCk HCv HB1 KB1 HLk
  generalize w1.heap.size = BX at *
  generalize (w1.alloc (.cells #[.string s.nm, .slice pk nk ck, .slice pv nv cv] 52)) = W at *
  go_wp2_with (first
    | (go_at_call 34; refine (SN.of_any (nm := nm) HL2.out.dk (Nat.le_trans HLn.out (by decide))).mono ?_; rintro e w3 ⟨p3, c3, rfl, hi3, hb3⟩; have HB3 := hid hb3; have HI3 := hid hi3; clear hi3 hb3))
  have hIm : ∀ i ∈ SN.ofL nm 0 l, ∃ (j : Nat) (y : Sm), i = (j : Int) ∧ l[j]? = some y := fun i hi => by
    obtain ⟨j, y, e, hy⟩ := ofL_get nm 0 l i hi
    exact ⟨j, y, by rw [e]; congr 1; omega, hy⟩
  have HIm := hid hIm
  have hpm := HI.out.scan nm a z
  have hTot : ((SN.ofL nm 0 l).flatMap (rowsI l R a z)).length ≤ 254 := by
    rw [hpm.length_eq]
    unfold scanR
    rw [List.length_map]
    exact Nat.le_trans (List.length_filter_le _ _) HPl.out
  have HTot := hid hTot
  have HPm := hid hpm
  have hn3 := SN.ofL_len nm 0 l
  clear hIm hpm hTot
  generalize SN.ofL nm 0 l = L at *
  have HL3 := hid (HL2.out.on HB3.out)
  have HB13 := hid (HB2.out.trans (HB3.out.mono HB2.out.size))
  have KX3 := hid (block_on KX.out HB3.out)
  have KB3 := hid (block_on KB2.out HB3.out)
  have HCk3 := hid (HCk2.out.on HB3.out)
  have HCv3 := hid (HCv2.out.on HB3.out)
  clear HL2 HB2 HB3 KX KB2 HCk2 HCv2
  generalize hln : L.length = n3 at *
  have HLn3 := hid hln
  have hn254 : n3 ≤ 254 := Nat.le_trans hn3 HLn.out
  clear hln hn3
  go_loopw [12, 33] (fun v i wr => ∃ (k : Nat) (hs' : List Value), k ≤ n3 ∧ i = .int .i64 k ∧ Hid (Own one 1 32 w3.heap.size wr v hs') ∧ Hid (HeadsP any wr hs' ((L.take k).flatMap (rowsI l R a z))) ∧ Hid (Below w3.heap.size w3 wr)) (fun _ i _ => n3 - (intOf i).toNat)
  case atStart => exact ⟨0, [], by omega, rfl, Own.nil _ _ _ _ _, HeadsP.nil _ _, Below.refl _ _⟩
  case round =>
    obtain ⟨k, hs', hk, rfl, HO, HR, HB⟩ := hrel
    by_cases hlt : k < n3
    · have hk' : k < L.length := by rw [HLn3.out]; exact hlt
      obtain ⟨i, hi⟩ : ∃ i, L[k]? = some i := ⟨L[k], List.getElem?_eq_getElem hk'⟩
      obtain ⟨j, y, rfl, hy⟩ := HIm.out i (List.mem_of_getElem? hi)
      obtain ⟨p9, c9, hve, hc9, -, hx9⟩ := HI3.out
      rw [HLn3.out] at hve
      cases hve
      obtain ⟨g, o, rfl, -, hcell⟩ := hx9 (by intro e; rw [e] at hk'; simp at hk')
      have d0 : wr.cell? ⟨g, o + k, none⟩ = some (.int .i64 (j : Int)) := by have := SN.cell_onB (hcell k _ hi 0 _ rfl) HB.out; rw [Nat.mul_one, Nat.add_zero] at this; exact this
      have hcap9 := hc9.1
      rw [HLn3.out] at hcap9
      have HT := hid (takeI (l := l) (R := R) (a := a) (z := z) hi)
      obtain ⟨r, q, hr1, hq1, hrk1⟩ := rs_at HL3.out hy
      rw [rowsI_at hy hq1] at HT
      obtain ⟨hz1, hz2⟩ := HI.out.sizes HZ.out hy hq1
      have HQl := hid (Nat.le_trans (HI.out.q_le hq1) HPl.out)
      have HY := hid hy
      have HQ1 := hid hq1
      have HZ1 := hid hz1
      have HZ2 := hid hz2
      have hlen' : hs'.length ≤ 254 := by rw [HR.out.1]; exact Nat.le_trans (flat_take_len k) HTot.out
      have HLn' := hid hlen'
      have hrl : ((RN.rngS q a z).map (rowSm y)).length ≤ 254 := by rw [List.length_map]; exact Nat.le_trans (RN.rng_len q a z) HQl.out
      have HRl := hid hrl
      have HL4 := hid (HL3.out.on HB.out)
      clear hi hy hx9 hcell hr1 hq1 hrk1 hz1 hz2 hlen' hk' hrl
      obtain ⟨pr, cr, rfl⟩ := own_formN HO.out rfl
      go_wp2_with (first
        | (go_at_call 35; refine (rowsOf_any (a := a) (z := z) HL4.out HY.out HQ1.out HLn.out HQl.out HZ1.out HZ2.out).mono ?_; rintro e w4 ⟨v4, hs4, rfl, ho4, hh4, hb4⟩; have hf4 := own_formN ho4 rfl; obtain ⟨p4, c4, rfl⟩ := hf4; have HO4 := hid ho4; have HH4 := hid hh4; have HB4 := hid hb4; clear ho4 hh4 hb4)
        | (at_builtin; refine app_N (N := bsz 1) (B := w3.heap.size) elem35.N one_len (headsP_cells HH4.out) rfl _ _ rfl rfl (own_kp (T := fun _ => False) HO.out (Kp.of HB4.out) (fun _ _ => id)) rfl (Own.sl HO4.out one_len (by have h1 := HH4.out.1; have := HRl.out; unfold bsz; simp; omega)) (bs24 (Nat.le_trans HLn'.out (by decide)) (by have h1 := HH4.out.1; have := HRl.out; omega)) (by decide) (by have := HB.out.size; have := HB4.out.size; omega) ?_; intro v6 w6 hown6 hg6; have HO6 := hid hown6; have HG6 := hid hg6; clear hown6 hg6))
      have hO4' := own_kp (T := fun _ => False) HO.out (Kp.of HB4.out) (fun _ _ => id)
      have hK6 : Kp (fun k => (Value.slice pr hs'.length cr).ownBlock = some k) w4 w6 := Kp.grown HG6.out (fun k e => e)
      refine ⟨⟨k + 1, _, by omega, by go_num, HO6.out, ?_, ?_⟩, by simp [intOf]; omega⟩
      · show HeadsP _ _ _ _
        rw [HT.out]
        exact HeadsP.app ((HR.out.on HB4.out).kp hK6 (fun k hk => off32 hO4' hk)) (HH4.out.kp hK6 (fun k hk => off32 hO4' hk))
      · have hb := hK6.below (B := w3.heap.size) (by have := HB.out.size; have := HB4.out.size; omega) (fun k hk => (own_at hO4' hk).1)
        exact (HB.out.trans (HB4.out.mono HB.out.size)).trans hb
    · have hks : k = n3 := by omega
      subst hks
      have hta : L.take k = L := List.take_of_length_le (by rw [HLn3.out]; exact Nat.le_refl _)
      rw [hta] at HR
      have hlen' : hs'.length ≤ 254 := by rw [HR.out.1]; exact HTot.out
      have HSl := hid (Own.sl HO.out one_len (by unfold bsz; simp; omega))
      have HB5 := hid (HB13.out.trans (HB.out.mono HB13.out.size))
      have KX5 := hid (block_on KX3.out HB.out)
      have KB5 := hid (block_on KB3.out HB.out)
      have HCk5 := hid (HCk3.out.on HB.out)
      have HCv5 := hid (HCv3.out.on HB.out)
      obtain ⟨pr, cr, rfl⟩ := own_formN HO.out rfl
      have k5 := block_cell KX5.out
      go_wp2_with (first
        | (go_at_call 37; refine (scols_any (s := s) ⟨_, _, rfl, HCk5.out, HCv5.out⟩ HCl.out).mono ?_; rintro e w6 ⟨u6, rfl, hc6, hb6⟩; have hf6 := hc6; obtain ⟨p6, c6, rfl, -⟩ := hf6; have HC6 := hid hc6; have HB6 := hid hb6; have KB6 := hid (block_on KB5.out hb6); clear hc6 hb6)
        | (go_at_call 36; refine (canon_t (cs := colsS s) (rs := L.flatMap (rowsI l R a z)) ⟨_, _, rfl, HC6.out, hs', (SlAt.on HSl.out HB6.out).imp (fun _ _ => trivial), (HR.out.on HB6.out).at⟩).mono ?_; rintro e w7 ⟨v7, rfl, ht7, hb7⟩; have HT7 := hid ht7; obtain ⟨tc, tr, rfl, ⟨pc7, cc7, rfl, -⟩, hs7, ⟨pr7, cr7, rfl, -⟩, -⟩ := ht7; have HB7 := hid hb7; have KB7 := hid (block_on KB6.out hb7); have k7 := block_cell KB7.out; have f7 := frozen_no KB7.out; clear hb7))
      have KF := Joins.block_setCell (i := 1) (Joins.block_setCell (i := 0) KB7.out (.slice pc7 (colsS s).length cc7)) (.slice pr7 hs7.length cr7)
      have hb7 : Below w.heap.size w w7 := (HB5.out.trans (HB6.out.mono HB5.out.size)).trans (HB7.out.mono (Nat.le_trans HB5.out.size HB6.out.size))
      have HBF : Below w.heap.size w ((w7.setCell ⟨w.heap.size, 0, none⟩ (.slice pc7 (colsS s).length cc7)).setCell ⟨w.heap.size, 1, none⟩ (.slice pr7 hs7.length cr7)) := (hb7.setCell (Nat.le_refl _) _).setCell (Nat.le_refl _) _
      have hTF := tabY_set (tabY_set HT7.out (z := w.heap.size) (i := 0) (u := .slice pc7 (colsS s).length cc7) (fun g hg => by have := HB5.out.size; have := HB6.out.size; have := lt_of_block KB5.out; have hg' : w6.heap.size ≤ g := hg; omega)) (z := w.heap.size) (i := 1) (u := .slice pr7 hs7.length cr7) (fun g hg => by have := HB5.out.size; have := HB6.out.size; have := lt_of_block KB5.out; have hg' : w6.heap.size ≤ g := hg; omega)
      generalize ((w7.setCell ⟨w.heap.size, 0, none⟩ (.slice pc7 (colsS s).length cc7)).setCell ⟨w.heap.size, 1, none⟩ (.slice pr7 hs7.length cr7)) = WF at KF HBF hTF ⊢
      have kcf := block_cell KF
      clear KF k7 f7 k5
      refine bodyPost_ret (v := .tuple #[.agg #[.slice pc7 (colsS s).length cc7, .slice pr7 hs7.length cr7], .int .i64 0]) (by simp [results, Tryz.results13, go_sem, kcf]) rfl ⟨_, by rw [E1.out], ?_, HBF⟩
      rw [E2.out, E3.out, ← sortR_perm_eq HPm.out]
      exact hTF.imp fun g hg => by have := HB5.out.size; have := HB6.out.size; have hg' : w6.heap.size ≤ g := hg; omega
theorem scan_anyT {B : Nat} {P : Nat → Prop} {w : World} {b : Nat} {S : List Sc} {room : Int} {x : Lx} {pts : List Pt} {nm : ByteArray} {a z : Int} (h : Lf B P w b S room x pts) (hc : checkS S = 0) (hl : pts.length ≤ 254) (hz : ∀ p ∈ pts, List.length p.ks ≤ 4 ∧ List.length p.vs ≤ 4) :
    Calls Tryz.prog 13 #[dp b, .string nm, .int .i64 a, .int .i64 z] w (ScT w S pts nm a z) := by
  by_cases hn : atS S nm < 0
  · exact scan_noneT h hn
  · obtain ⟨j, hj, he⟩ := at_nat hn
    exact scan_someT h hc hj he hl hz
end Go.Proofs.YtlbjbkhcnafhcaaGreat
namespace Go.Proofs.YtlbjbkhcnafhcaaGreat
open Go.RowKit Go.Sort Go.Shelf

def leR (x y : Rw) : Bool := decide (cmpR x y ≤ 0)
def mergeR (a b : List Rw) : List Rw := List.merge a b leR
theorem mergeR_left {a b : List Rw} {i k : Nat} (hi : i < a.length) (hk : b.length ≤ k) : mergeR (a.drop i) (b.drop k) = a[i]! :: mergeR (a.drop (i + 1)) (b.drop k) := by
  have e1 : a[i]! = a[i] := by rw [List.getElem!_eq_getElem?_getD, List.getElem?_eq_getElem hi]; rfl
  rw [List.drop_eq_nil_of_le hk, List.drop_eq_getElem_cons hi, e1]
  unfold mergeR
  rw [List.merge_right, List.merge_right]
theorem mergeR_right {a b : List Rw} {i k : Nat} (hi : a.length ≤ i) (hk : k < b.length) : mergeR (a.drop i) (b.drop k) = b[k]! :: mergeR (a.drop i) (b.drop (k + 1)) := by
  have e1 : b[k]! = b[k] := by rw [List.getElem!_eq_getElem?_getD, List.getElem?_eq_getElem hk]; rfl
  rw [List.drop_eq_nil_of_le hi, List.drop_eq_getElem_cons hk, e1]
  unfold mergeR
  rw [List.nil_merge, List.nil_merge]
theorem mergeR_le {a b : List Rw} {i k : Nat} (hi : i < a.length) (hk : k < b.length) (h : cmpR a[i]! b[k]! ≤ 0) : mergeR (a.drop i) (b.drop k) = a[i]! :: mergeR (a.drop (i + 1)) (b.drop k) := by
  have e1 : a[i]! = a[i] := by rw [List.getElem!_eq_getElem?_getD, List.getElem?_eq_getElem hi]; rfl
  have e2 : b[k]! = b[k] := by rw [List.getElem!_eq_getElem?_getD, List.getElem?_eq_getElem hk]; rfl
  rw [e1, e2] at h
  rw [List.drop_eq_getElem_cons hi, List.drop_eq_getElem_cons hk, e1]
  unfold mergeR
  rw [List.cons_merge_cons, if_pos (by unfold leR; exact decide_eq_true h)]
theorem mergeR_gt {a b : List Rw} {i k : Nat} (hi : i < a.length) (hk : k < b.length) (h : ¬ cmpR a[i]! b[k]! ≤ 0) : mergeR (a.drop i) (b.drop k) = b[k]! :: mergeR (a.drop i) (b.drop (k + 1)) := by
  have e1 : a[i]! = a[i] := by rw [List.getElem!_eq_getElem?_getD, List.getElem?_eq_getElem hi]; rfl
  have e2 : b[k]! = b[k] := by rw [List.getElem!_eq_getElem?_getD, List.getElem?_eq_getElem hk]; rfl
  rw [e1, e2] at h
  rw [List.drop_eq_getElem_cons hi, List.drop_eq_getElem_cons hk, e2]
  unfold mergeR
  rw [List.cons_merge_cons, if_neg (by unfold leR; simpa using h)]
theorem mergeR_sort (a b : List Rw) : mergeR (sortR a) (sortR b) = sortR (a ++ b) := by
  refine sortR_of ?_ ?_
  · have := List.pairwise_merge (le := leR) (fun x y z h1 h2 => by unfold leR at *; simp at *; exact cmpR_trans h1 h2) (fun x y => by have := neg_cmpR x y; unfold leR; simp; omega) (sortR a) (sortR b) ((sortR_up a).imp fun h => by unfold leR; simpa using h) ((sortR_up b).imp fun h => by unfold leR; simpa using h)
    exact this.imp fun h => by unfold leR at h; simpa using h
  · exact (List.merge_perm_append (le := leR)).trans ((sortR_perm a).append (sortR_perm b))
theorem sortR_short {a : List Rw} (h : a.length < 2) : sortR a = a := by
  refine (sortR_of ?_ (List.Perm.refl a)).symm
  match a, h with
  | [], _ => exact List.Pairwise.nil
  | [x], _ => exact List.pairwise_singleton _ _
theorem SlAt.drop {α : Type} {Q : Nat → Prop} {enc : α → List Value} {k : Nat} {w : World} {p : Option Addr} {n cap : Nat} {xs : List α} (h : SlAt Q enc k w (.slice p n cap) xs) (hk1 : k = 1) (m : Nat) (hm : m ≤ n) : SlAt Q enc k w (.slice (if cap = m then p else Option.map (fun x => x.add m) p) (n - m) (cap - m)) (xs.drop m) := by
  subst hk1
  obtain ⟨p', cap', hv, ⟨hc, hno⟩, hmx, hx⟩ := h
  cases hv
  have hl : (xs.drop m).length = xs.length - m := by simp
  refine ⟨_, _, by rw [hl], ⟨by omega, ?_⟩, by omega, fun hne => ?_⟩
  · intro e
    split at e
    · omega
    · cases p with
      | none => have := hno rfl; omega
      | some a => cases e
  · have hlt : m < xs.length := by
      rcases Nat.lt_or_ge m xs.length with h | h
      · exact h
      · exact absurd (List.drop_eq_nil_of_le h) hne
    obtain ⟨b, o, rfl, hQ, hj⟩ := hx (by intro e; subst e; simp at hlt)
    rw [if_neg (by omega)]
    refine ⟨b, o + m, by simp [Addr.add_lit], ⟨hQ.1, Nat.le_trans (Nat.mul_le_mul_right _ (by omega)) hQ.2⟩, fun j x hjx => ?_⟩
    have := hj (m + j) x (by rw [List.getElem?_drop] at hjx; exact hjx)
    have e : o + (m + j) * 1 = o + m + j * 1 := by omega
    rwa [e] at this
theorem HeadsIn.drop {Q : Nat → Prop} {w : World} {hs : List Value} {rs : List Rw} (h : HeadsIn Q w hs rs) (m : Nat) : HeadsIn Q w (hs.drop m) (rs.drop m) := by
  refine ⟨by rw [List.length_drop, List.length_drop, h.1], fun j x r h1 h2 => ?_⟩
  rw [List.getElem?_drop] at h1 h2
  exact h.2 _ x r h1 h2
end Go.Proofs.YtlbjbkhcnafhcaaGreat
namespace Go.Proofs.YtlbjbkhcnafhcaaGreat
open Go.RowKit Go.Sort Go.Shelf

theorem SlAt.take {α : Type} {Q : Nat → Prop} {enc : α → List Value} {k : Nat} {w : World} {p : Option Addr} {n cap : Nat} {xs : List α} (h : SlAt Q enc k w (.slice p n cap) xs) (m : Nat) (hm : m ≤ n) : SlAt Q enc k w (.slice p m cap) (xs.take m) := by
  obtain ⟨p', cap', hv, ⟨hc, hno⟩, hmx, hx⟩ := h
  cases hv
  have hl : (xs.take m).length = m := by simp; omega
  refine ⟨p, cap, by rw [hl], ⟨by omega, hno⟩, by omega, fun hne => ?_⟩
  obtain ⟨b, o, hp, hQ, hj⟩ := hx (by intro e; subst e; simp at hne)
  refine ⟨b, o, hp, ⟨hQ.1, Nat.le_trans (Nat.mul_le_mul_right _ (by omega)) hQ.2⟩, fun j x hjx => hj j x ?_⟩
  have hlt : j < m := by have := (List.getElem?_eq_some_iff.1 hjx).1; omega
  rwa [List.getElem?_take_of_lt hlt] at hjx
theorem HeadsIn.take {Q : Nat → Prop} {w : World} {hs : List Value} {rs : List Rw} (h : HeadsIn Q w hs rs) (m : Nat) : HeadsIn Q w (hs.take m) (rs.take m) := by
  refine ⟨by rw [List.length_take, List.length_take, h.1], fun j x r h1 h2 => ?_⟩
  have hlt : j < m := by have := (List.getElem?_eq_some_iff.1 h1).1; simp at this; omega
  rw [List.getElem?_take_of_lt hlt] at h1 h2
  exact h.2 j x r h1 h2
end Go.Proofs.YtlbjbkhcnafhcaaGreat
namespace Go.Proofs.YtlbjbkhcnafhcaaGreat
open Go.RowKit Go.Sort Go.Shelf

theorem one_cell {v : Value} (h : v.oneCell' = true) : ∀ y ∈ [v], ∀ c ∈ one y, c.oneCell' = true := by
  intro y hy c hc
  simp at hy; subst hy
  simp [one] at hc; subst hc
  exact h
theorem row_cell {Q : Nat → Prop} {w : World} {v : Value} {r : Rw} (h : RowIn Q w v r) : v.oneCell' = true := by
  obtain ⟨p, cap, rfl, -⟩ := h; rfl
theorem heads_cells {Q : Nat → Prop} {w : World} {hs : List Value} {rs : List Rw} (h : HeadsIn Q w hs rs) : ∀ y ∈ hs, ∀ c ∈ one y, c.oneCell' = true := by
  intro y hy c hc
  simp [one] at hc; subst hc
  obtain ⟨j, hj⟩ := List.getElem?_of_mem hy
  have hlt : j < rs.length := by rw [← h.1]; exact (List.getElem?_eq_some_iff.1 hj).1
  exact row_cell (h.2 j _ _ hj (get!_some hlt))
theorem HeadsIn.snoc' {Q : Nat → Prop} {w : World} {hs : List Value} {rs : List Rw} {h : Value} {r : Rw} (hh : HeadsIn Q w hs rs) (hr : RowIn Q w h r) : HeadsIn Q w (hs ++ [h]) (rs ++ [r]) := by
  refine ⟨by simp [hh.1], fun j x q h1 h2 => ?_⟩
  by_cases hlt : j < hs.length
  · rw [List.getElem?_append_left hlt] at h1
    rw [List.getElem?_append_left (by rw [← hh.1]; exact hlt)] at h2
    exact hh.2 j x q h1 h2
  · have hj : j = hs.length := by have := (List.getElem?_eq_some_iff.1 h1).1; simp at this; omega
    subst hj
    rw [List.getElem?_append_right (Nat.le_refl _)] at h1
    rw [hh.1, List.getElem?_append_right (Nat.le_refl _)] at h2
    simp at h1 h2
    subst h1 h2
    exact hr
theorem bound1 {n m : Nat} (h : n * bsz 1 ≤ 140737488355328) (hm : m ≤ n) : m * bsz 1 ≤ 140737488355328 := Nat.le_trans (Nat.mul_le_mul_right _ hm) h
theorem below_on2 {W w1 w2 : World} (h : Below W.heap.size W w1) (h2 : Below w1.heap.size w1 w2) : Below W.heap.size W w2 := below_on h h2
theorem sl_cell {Q : Nat → Prop} {w : World} {p : Option Addr} {n cap : Nat} {hs : List Value} {k : Nat} (h : SlAt Q one 1 w (.slice p n cap) hs) (hk : k < hs.length) : ∃ b o, p = some ⟨b, o, none⟩ ∧ w.cell? ⟨b, o + k, none⟩ = some hs[k]! := by
  obtain ⟨p', cap', hv, -, -, hx⟩ := h
  cases hv
  obtain ⟨b, o, hp, -, hj⟩ := hx (by intro e; subst e; simp at hk)
  exact ⟨b, o, hp, head_cell hj (get!_some hk)⟩
def Sorts (Q : Nat → Prop) (w : World) (v : Value) (rs : List Rw) : Prop := Calls Tryz.prog 65 #[v] w fun e w' => ∃ v' hs', e = .returned v' ∧ SlAt (fun b => w.heap.size ≤ b) one 1 w' v' hs' ∧ HeadsIn Q w' hs' (sortR rs) ∧ Below w.heap.size w w'
set_option maxHeartbeats 1000000 in
theorem sorted_short {Q : Nat → Prop} {v : Value} {hs : List Value} {rs : List Rw} {w : World} (hv : SlAt any one 1 w v hs) (hh : HeadsIn Q w hs rs) (hl : hs.length < 2) : Sorts Q w v rs := by
  unfold Sorts
  rw [sortR_short (by rw [← hh.1]; exact hl)]
  have HV := hid hv
  have HH := hid hh
  obtain ⟨p, cap, rfl, hcap, hmax, hx⟩ := hv
  clear hmax hx hh hcap
  generalize hn : hs.length = n at *
  have HN := hid hn
  clear hn
  go_enter Tryz.func65, Tryz.ntmps65
  go_wp2_with (at_builtin; refine app_any elem35 one_len (heads_cells HH.out) rfl _ _ rfl rfl (Own.made one 1 32 w.heap.size w (Nat.le_refl _)) rfl (SlAt.on HV.out ((Below.refl _ _).alloc (Nat.le_refl _) _)) (by simpa using SlAt.bound HV.out) (by simp) ?_; intro v' w1 hown hb1)
  have hb2 : Below w.heap.size w w1 := ((Below.refl _ _).alloc (Nat.le_refl _) _).trans hb1
  rw [List.nil_append] at hown
  go_ret
  exact ⟨_, hs, rfl, Own.sl hown one_len (SlAt.bound HV.out), HH.out.on hb2, hb2⟩
set_option maxHeartbeats 2000000 in
theorem sorted_long {Q : Nat → Prop} {p : Option Addr} {cap : Nat} {hs : List Value} {rs : List Rw} {w : World} (hv : SlAt any one 1 w (.slice p hs.length cap) hs) (hh : HeadsIn Q w hs rs) (hl : 2 ≤ hs.length)
    (ih : ∀ (w1 : World) (u : Value) (h1 : List Value) (r1 : List Rw), h1.length < hs.length → SlAt any one 1 w1 u h1 → HeadsIn Q w1 h1 r1 → Sorts Q w1 u r1) : Sorts Q w (.slice p hs.length cap) rs := by
  obtain ⟨h, hhd⟩ : ∃ h, hs.length / 2 = h := ⟨_, rfl⟩
  have hcap : hs.length ≤ cap ∧ hs.length ≤ maxLen := by
    obtain ⟨p', cap2, e, ⟨hcap, -⟩, hmx, -⟩ := id hv
    cases e
    exact ⟨hcap, hmx⟩
  obtain ⟨hcap, hmx⟩ := hcap
  have C1 : Hid (Sorts Q w (.slice p h cap) (rs.take h)) := ih w _ (hs.take h) (rs.take h) (by simp; omega) (hv.take h (by omega)) (hh.take h)
  have C2 : Hid (∀ W, Below w.heap.size w W → Sorts Q W (.slice (Option.map (fun x => x.add h) p) (hs.length - h) (cap - h)) (rs.drop h)) := fun W hb => by
    have hd := hv.drop rfl h (by omega)
    rw [if_neg (by omega)] at hd
    exact ih W _ (hs.drop h) (rs.drop h) (by simp; omega) (hd.on hb) ((hh.drop h).on hb)
  have HRS : Hid (mergeR (sortR (rs.take h)) (sortR (rs.drop h)) = sortR rs) := by rw [mergeR_sort, List.take_append_drop]; exact rfl
  have HBD := hid (SlAt.bound hv)
  have hla : (sortR (rs.take h)).length = h := by rw [sortR_length, List.length_take, ← hh.1]; omega
  have hlb : (sortR (rs.drop h)).length = hs.length - h := by rw [sortR_length, List.length_drop, ← hh.1]
  unfold Sorts at C1 C2 ⊢
  clear ih hv
  generalize sortR (rs.take h) = A at *
  generalize sortR (rs.drop h) = B at *
  generalize sortR rs = R at *
  clear hh
  generalize hs.length = n at *
  unfold maxLen at hmx
  have hq : (n : Int) / 2 = (h : Int) := by omega
  have hhn : h ≤ n := by omega
  have hh0 : 0 < h := by omega
  have HLA := hid hla
  have HLB := hid hlb
  generalize hm : n - h = m at *
  clear hla hlb hhd
  have M1 : Hid True := trivial
  have M2 : Hid True := trivial
  go_enter Tryz.func65, Tryz.ntmps65
  go_wp2_with (first
    | (go_at_call 65; clear M1; refine C1.out.mono ?_; rintro e w1 ⟨v1, ha, rfl, hs1, hh1, hb1⟩; have HS1 := hid hs1; have HH1 := hid hh1; have HB1 := hid hb1; obtain ⟨pa, capa, rfl, -⟩ := hs1; rw [show ha.length = h by rw [HH1.out.1, HLA.out]] at HS1 ⊢; clear hh1 hb1)
    | (go_at_call 65; clear M2; refine (C2.out _ HB1.out).mono ?_; rintro e w2 ⟨v2, hb, rfl, hs2, hh2, hb2⟩; have HS2 := hid hs2; have HH2 := hid hh2; have HB2 := hid hb2; obtain ⟨pb, capb, rfl, -⟩ := hs2; rw [show hb.length = m by rw [HH2.out.1, HLB.out]] at HS2 ⊢; clear hh2 hb2))
  have HSA := hid (HS1.out.on HB2.out)
  have HHA := hid (HH1.out.on HB2.out)
  have HBD' : h + m = n := by omega
  clear C1 C2 HS1 HH1
  go_loopw [5, 6, 7] (fun o i k wr => ∃ (i' k' : Nat) (oh : List Value) (acc : List Rw), i' ≤ h ∧ k' ≤ m ∧ i = .int .i64 i' ∧ k = .int .i64 k' ∧ oh.length = i' + k' ∧ Hid (Own one 1 32 w2.heap.size wr o oh) ∧ Hid (HeadsIn Q w2 oh acc) ∧ Hid (acc ++ mergeR (A.drop i') (B.drop k') = R) ∧ Hid (Below w2.heap.size w2 wr)) (fun _ i k _ => (h + m) - ((intOf i).toNat + (intOf k).toNat))
  case atStart => exact ⟨0, 0, [], [], by omega, by omega, rfl, rfl, rfl, Own.nil _ _ _ _ _, ⟨rfl, fun j x r h1 _ => by simp at h1⟩, HRS.out, Below.refl _ _⟩
  case round =>
    obtain ⟨i', k', oh, acc, hi, hk, rfl, rfl, hlen, HO, KO, HM, HB⟩ := hrel
    by_cases hlt : i' < h
    · have hia : i' < ha.length := by rw [HHA.out.1, HLA.out]; exact hlt
      have hiA : i' < A.length := by rw [HLA.out]; exact hlt
      obtain ⟨ba, oa, rfl, hja⟩ := sl_cell HSA.out hia
      have HRA := hid (HHA.out.2 i' _ _ (get!_some hia) (get!_some hiA))
      have HCA := hid (cell_on hja HB.out)
      have HLe := hid (fun hk => mergeR_left (a := A) (b := B) (i := i') (k := k') hiA hk)
      have HLt := hid (fun hk h => mergeR_le (a := A) (b := B) (i := i') (k := k') hiA hk h)
      have HGt := hid (fun hk h => mergeR_gt (a := A) (b := B) (i := i') (k := k') hiA hk h)
      generalize ha[i']! = hda at *
      generalize A[i']! = ra at *
      clear hja
      by_cases hlk : k' < m
      · have hkb : k' < hb.length := by rw [HH2.out.1, HLB.out]; exact hlk
        have hkB : k' < B.length := by rw [HLB.out]; exact hlk
        obtain ⟨bb, ob, rfl, hjb⟩ := sl_cell HS2.out hkb
        have HRB := hid (HH2.out.2 k' _ _ (get!_some hkb) (get!_some hkB))
        have HCB := hid (cell_on hjb HB.out)
        generalize hb[k']! = hdb at *
        generalize B[k']! = rb at *
        clear hjb
        have e1 : ((k' : Int) == (m : Int)) = false := by rw [Bool.eq_false_iff]; intro e; have := beq_iff_eq.1 e; omega
        have ca := regrown_cell HCA.out
        have cb := regrown_cell HCB.out
        have HRA' : ∀ d os, Hid (RowAt (grow (redrawn wr d) os) hda ra) := fun d os => (HRA.out.on (below_on2 HB.out (below_regrown wr d os))).at
        have HRB' : ∀ d os, Hid (RowAt (grow (redrawn wr d) os) hdb rb) := fun d os => (HRB.out.on (below_on2 HB.out (below_regrown wr d os))).at
        by_cases hc : cmpR ra rb ≤ 0
        · obtain ⟨c, hcv⟩ : ∃ c, cmpR ra rb = c := ⟨_, rfl⟩
          have HCV := hid hcv
          have hc0 : decide (c ≤ 0) = true := by rw [← hcv]; exact decide_eq_true hc
          have HCC := hid hc
          clear hcv hc
          go_wp2_with fail
          refine wp_region_quiet_below (by kernel_rfl) (by kernel_rfl) ?_
          repeat (go_big_quiet_step (first | (go_at_call 32; exact Calls.regrown_of (rrow_is (HRA' _ _).out (HRB' _ _).out HCV.out))))
          refine wpQuiet_nil ?_
          intro _ hw'
          obtain ⟨⟨dq, osq⟩, hw''⟩ := hw'
          subst hw''
          have HBW := hid (HB.out.trans ((below_regrown wr dq osq).mono HB.out.size))
          have HOW := hid (Own.on HO.out (below_regrown wr dq osq))
          have cw := cell_on HCA.out (below_regrown wr dq osq)
          clear ca cb HRA' HRB'
          generalize grow (redrawn wr dq) osq = W at *
          obtain ⟨px, capx, rfl, -⟩ := id HRA.out
          go_wp2_with (at_builtin; refine app_any elem35 one_len (ys := [.slice px ra.length capx]) (one_cell (row_cell HRA.out)) rfl _ _ rfl rfl (Own.on HOW.out ((Below.refl _ _).alloc (Nat.le_refl _) _)) rfl (lit_sl (alloc_block _ _) one_len rfl rfl (Nat.le_refl _) (by simp)) (bound1 HBD.out (by simp; omega)) (Nat.le_trans HBW.out.size (by simp)) ?_; intro v' w3 hown hb3)
          go_roundw
          case rel =>
            refine ⟨i' + 1, k', oh ++ [_], acc ++ [ra], by omega, by omega, by go_num, rfl, by simp; omega, hown, KO.out.snoc' HRA.out, ?_, (HBW.out.alloc HBW.out.size _).trans hb3⟩
            have hx := HLt.out hkB HCC.out
            rw [← HM.out, hx, List.append_assoc]; rfl
          case measure => simp [intOf]; omega
        · obtain ⟨c, hcv⟩ : ∃ c, cmpR ra rb = c := ⟨_, rfl⟩
          have HCV := hid hcv
          have hc0 : decide (c ≤ 0) = false := by rw [← hcv]; exact decide_eq_false hc
          have HCC := hid hc
          clear hcv hc
          go_wp2_with fail
          refine wp_region_quiet_below (by kernel_rfl) (by kernel_rfl) ?_
          repeat (go_big_quiet_step (first | (go_at_call 32; exact Calls.regrown_of (rrow_is (HRA' _ _).out (HRB' _ _).out HCV.out))))
          refine wpQuiet_nil ?_
          intro _ hw'
          obtain ⟨⟨dq, osq⟩, hw''⟩ := hw'
          subst hw''
          have HBW := hid (HB.out.trans ((below_regrown wr dq osq).mono HB.out.size))
          have HOW := hid (Own.on HO.out (below_regrown wr dq osq))
          have cw := cell_on HCB.out (below_regrown wr dq osq)
          clear ca cb HRA' HRB'
          generalize grow (redrawn wr dq) osq = W at *
          obtain ⟨px, capx, rfl, -⟩ := id HRB.out
          go_wp2_with (at_builtin; refine app_any elem35 one_len (ys := [.slice px rb.length capx]) (one_cell (row_cell HRB.out)) rfl _ _ rfl rfl (Own.on HOW.out ((Below.refl _ _).alloc (Nat.le_refl _) _)) rfl (lit_sl (alloc_block _ _) one_len rfl rfl (Nat.le_refl _) (by simp)) (bound1 HBD.out (by simp; omega)) (Nat.le_trans HBW.out.size (by simp)) ?_; intro v' w3 hown hb3)
          go_roundw
          case rel =>
            refine ⟨i', k' + 1, oh ++ [_], acc ++ [rb], by omega, by omega, rfl, by go_num, by simp; omega, hown, KO.out.snoc' HRB.out, ?_, (HBW.out.alloc HBW.out.size _).trans hb3⟩
            have hx := HGt.out hkB HCC.out
            rw [← HM.out, hx, List.append_assoc]; rfl
          case measure => simp [intOf]; omega
      · have hkm : k' = m := by omega
        subst hkm
        go_wp2_with fail
        refine wp_region_quiet_below (by kernel_rfl) (by kernel_rfl) ?_
        repeat (go_big_quiet_step (first | fail))
        refine wpQuiet_nil ?_
        intro _ hw'
        obtain ⟨⟨dq, osq⟩, hw''⟩ := hw'
        subst hw''
        have HBW := hid (HB.out.trans ((below_regrown wr dq osq).mono HB.out.size))
        have HOW := hid (Own.on HO.out (below_regrown wr dq osq))
        have cw := cell_on HCA.out (below_regrown wr dq osq)
        generalize grow (redrawn wr dq) osq = W at *
        obtain ⟨px, capx, rfl, -⟩ := id HRA.out
        go_wp2_with (at_builtin; refine app_any elem35 one_len (ys := [.slice px ra.length capx]) (one_cell (row_cell HRA.out)) rfl _ _ rfl rfl (Own.on HOW.out ((Below.refl _ _).alloc (Nat.le_refl _) _)) rfl (lit_sl (alloc_block _ _) one_len rfl rfl (Nat.le_refl _) (by simp)) (bound1 HBD.out (by simp; omega)) (Nat.le_trans HBW.out.size (by simp)) ?_; intro v' w3 hown hb3)
        go_roundw
        case rel =>
          refine ⟨i' + 1, k', oh ++ [_], acc ++ [ra], by omega, by omega, by go_num, rfl, by simp; omega, hown, KO.out.snoc' HRA.out, ?_, (HBW.out.alloc HBW.out.size _).trans hb3⟩
          have hx := HLe.out (by rw [HLB.out]; exact Nat.le_refl _)
          rw [← HM.out, hx, List.append_assoc]; rfl
        case measure => simp [intOf]; omega
    · have hih : i' = h := by omega
      subst hih
      by_cases hlk : k' < m
      · have hkb : k' < hb.length := by rw [HH2.out.1, HLB.out]; exact hlk
        have hkB : k' < B.length := by rw [HLB.out]; exact hlk
        obtain ⟨bb, ob, rfl, hjb⟩ := sl_cell HS2.out hkb
        have HRB := hid (HH2.out.2 k' _ _ (get!_some hkb) (get!_some hkB))
        have HCB := hid (cell_on hjb HB.out)
        have HRt := hid (fun hi => mergeR_right (a := A) (b := B) (i := i') (k := k') hi hkB)
        generalize hb[k']! = hdb at *
        generalize B[k']! = rb at *
        clear hjb
        have e1 : ((k' : Int) == (m : Int)) = false := by rw [Bool.eq_false_iff]; intro e; have := beq_iff_eq.1 e; omega
        go_wp2_with fail
        refine wp_region_quiet_below (by kernel_rfl) (by kernel_rfl) ?_
        repeat (go_big_quiet_step (first | fail))
        refine wpQuiet_nil ?_
        intro _ hw'
        obtain ⟨⟨dq, osq⟩, hw''⟩ := hw'
        subst hw''
        have HBW := hid (HB.out.trans ((below_regrown wr dq osq).mono HB.out.size))
        have HOW := hid (Own.on HO.out (below_regrown wr dq osq))
        have cw := cell_on HCB.out (below_regrown wr dq osq)
        generalize grow (redrawn wr dq) osq = W at *
        obtain ⟨px, capx, rfl, -⟩ := id HRB.out
        go_wp2_with (at_builtin; refine app_any elem35 one_len (ys := [.slice px rb.length capx]) (one_cell (row_cell HRB.out)) rfl _ _ rfl rfl (Own.on HOW.out ((Below.refl _ _).alloc (Nat.le_refl _) _)) rfl (lit_sl (alloc_block _ _) one_len rfl rfl (Nat.le_refl _) (by simp)) (bound1 HBD.out (by simp; omega)) (Nat.le_trans HBW.out.size (by simp)) ?_; intro v' w3 hown hb3)
        go_roundw
        case rel =>
          refine ⟨i', k' + 1, oh ++ [_], acc ++ [rb], by omega, by omega, rfl, by go_num, by simp; omega, hown, KO.out.snoc' HRB.out, ?_, (HBW.out.alloc HBW.out.size _).trans hb3⟩
          have hx := HRt.out (by rw [HLA.out]; exact Nat.le_refl _)
          rw [← HM.out, hx, List.append_assoc]; rfl
        case measure => simp [intOf]; omega
      · have hkm : k' = m := by omega
        subst hkm
        go_wp2
        go_ret
        have he : acc = R := by
          have := HM.out
          rw [List.drop_eq_nil_of_le (by rw [HLA.out]; exact Nat.le_refl _), List.drop_eq_nil_of_le (by rw [HLB.out]; exact Nat.le_refl _)] at this
          rw [← this]; simp [mergeR]
        subst he
        have hsz : w.heap.size ≤ w2.heap.size := Nat.le_trans HB1.out.size HB2.out.size
        exact ⟨_, oh, rfl, (Own.sl HO.out one_len (bound1 HBD.out (by omega))).imp (fun b hb => Nat.le_trans hsz hb), KO.out.on HB.out, (below_on HB1.out HB2.out).trans (HB.out.mono hsz)⟩
theorem sorted_any {Q : Nat → Prop} : ∀ (n : Nat) {v : Value} {hs : List Value} {rs : List Rw} {w : World}, hs.length ≤ n → SlAt any one 1 w v hs → HeadsIn Q w hs rs → Sorts Q w v rs := by
  intro n
  induction n with
  | zero => intro v hs rs w hn hv hh; exact sorted_short hv hh (by omega)
  | succ n ih =>
    intro v hs rs w hn hv hh
    by_cases hl : hs.length < 2
    · exact sorted_short hv hh hl
    · obtain ⟨p, cap, rfl, h1, h2, h3⟩ := hv
      exact sorted_long ⟨p, cap, rfl, h1, h2, h3⟩ hh (by omega) (fun w1 u h1 r1 hlt hs1 hh1 => ih (by omega) hs1 hh1)
end Go.Proofs.YtlbjbkhcnafhcaaGreat
namespace Go.Proofs.YtlbjbkhcnafhcaaGreat
open Go.RowKit Go.Sort Go.Shelf

theorem step_app {ops : Array Oper} {o : Oper} {a : Act} {w : World} {K : Act → World → Prop} {Q : Exit → Act → World → Prop} {E : Prop} {α : Type} {enc : α → List Value} {k e t B : Nat} {Qb : Nat → Prop} {xs ys : List α} {v u : Value}
    (hE : Elem t e k) (hk : ∀ x, (enc x).length = k) (h1 : ∀ y ∈ ys, ∀ c ∈ enc y, c.oneCell' = true) (hgd : o.guard = none) (s x : Operand) (ho : o.op = .call { callee := .builtin .append, args := #[s, x], argTypes := #[t, t] })
    (hs : a.eval s = v) (hx : a.eval x = u) (hown : Own enc k e B w v xs) (hu : SlAt Qb enc k w u ys) (hb : (xs.length + ys.length) * bsz k ≤ 140737488355328) (hB : B ≤ w.heap.size)
    (h : ∀ v' w', Own enc k e B w' v' (xs ++ ys) → Below B w w' → w.grownBy w' v.ownBlock → K (a.put o.dst v') w') : if Region.wanted o (yielded ops a.tmps) = true then Oper.wp Tryz.prog o a w K Q else E := by
  have hw : Region.wanted o (yielded ops a.tmps) = true := by simp [Region.wanted, hgd]
  rw [if_pos hw]
  obtain ⟨ht, hkp, i0, z, hi, hz0, hz1, hz2, hzs⟩ := hE
  obtain ⟨p, cap, rfl, ⟨hcap, hnone⟩, hmax, hy⟩ := hu
  cases p with
  | none =>
    have hn : ys = [] := by
      cases ys with
      | nil => rfl
      | cons y r => obtain ⟨b, o, hp, _⟩ := hy (by simp); cases hp
    subst hn
    have hc := hnone rfl
    subst hc
    have hrun := run_append_owned_none (P := Tryz.prog) (w := w) B t o.type e i0 k ht hi v xs.length _ hown
    have hx' : a.eval x = .slice none 0 0 := by rw [hx]; rfl
    unfold Oper.wp
    simp [execOp, ho, resolve, invoke, builtin, hs, hx', hrun, Result.andThen]
    exact h v w (by rw [List.append_nil]; exact hown) (Below.refl _ _) ⟨rfl, rfl, rfl, Nat.le_refl _, fun _ _ _ => rfl⟩
  | some ad =>
    refine wp_append_own w s x t ho B e i0 z k i0.bytes ht hi hz0 hz1 rfl hzs hkp v xs.length _ hs hown ad ys.length cap (ys.flatMap enc) hx (flat_length hk ys) ?_ ?_ ?_ (Nat.le_trans (Nat.mul_le_mul_left _ hz2) hb) hB ?_
    · intro j c hj
      have hne : ys ≠ [] := by intro e; subst e; simp at hj
      obtain ⟨b, o, hp, _, hcell⟩ := hy hne
      have hp' : ad = ⟨b, o, none⟩ := Option.some.inj hp
      rw [hp', Addr.add_lit]
      exact flat_cells hk ys o hcell j c hj
    · intro c hc
      obtain ⟨y, hy', hcy⟩ := List.mem_flatMap.1 hc
      exact h1 y hy' c hcy
    · unfold maxLen; unfold bsz at hb; split at hb <;> omega
    · intro v' w' h2 h3 _
      refine h v' w' ?_ ((Below.refl B w).grown h3 hB (fun j e => (hown.lt j e))) h3
      show w'.ownsRow B e k v' (xs ++ ys).length ((xs ++ ys).flatMap enc)
      rw [List.length_append, List.flatMap_append]; exact h2
theorem step_call {ops : Array Oper} {o : Oper} {a : Act} {w : World} {K : Act → World → Prop} {Q : Exit → Act → World → Prop} {E : Prop} {f : FuncId} {v : Value} (hgd : o.guard = none) (x : Operand) (t : TypeId)
    (ho : o.op = .call { callee := .value (.func f), args := #[x], argTypes := #[t] }) (hx : a.eval x = v) (hen : ∀ args w, (callFunc f args).run Tryz.prog w = .ok (.enter f args) w)
    (hc : Calls Tryz.prog f #[v] w fun e w' => ∃ u, e = .returned u ∧ K (a.put o.dst u) w') : if Region.wanted o (yielded ops a.tmps) = true then Oper.wp Tryz.prog o a w K Q else E := by
  have hw : Region.wanted o (yielded ops a.tmps) = true := by simp [Region.wanted, hgd]
  rw [if_pos hw]
  unfold Oper.wp
  have hr : (execOp a.eval o).run Tryz.prog w = .ok (.enter f #[v]) w := by
    simp [execOp, ho, resolve, invoke, hen, go_sem]
    rw [← hx]
    cases x <;> simp [Act.eval]
  rw [hr, Oper.upon_enter]
  refine hc.mono ?_
  rintro e w' ⟨u, rfl, hk⟩
  exact hk
theorem SlAt.grown {α : Type} {Q : Nat → Prop} {enc : α → List Value} {k : Nat} {w w' : World} {v : Value} {xs : List α} {row : Option Nat} (h : SlAt Q enc k w v xs) (hk : 0 < k) (hen : ∀ x, (enc x).length = k) (hg : w.grownBy w' row) (hne : ∀ b, Q b → b < w.heap.size → some b ≠ row) : SlAt Q enc k w' v xs := by
  obtain ⟨p, cap, hv, hc, hm, hx⟩ := h
  refine ⟨p, cap, hv, hc, hm, fun hn => ?_⟩
  obtain ⟨b, o, hp, hQ, hj⟩ := hx hn
  have hb0 : b < w.heap.size := by
    cases xs with
    | nil => exact absurd rfl hn
    | cons x r =>
      have hl : (enc x)[0]? = some ((enc x)[0]'(by rw [hen]; exact hk)) := List.getElem?_eq_getElem _
      exact block_lt_of_cell (hj 0 x rfl 0 _ hl)
  have hb : w'.heap[b]? = w.heap[b]? := hg.block b hb0 (hne b hQ.1 hb0)
  exact ⟨b, o, hp, hQ, fun j x hjx i u hu => (World.cell?_of_block (a := ⟨b, o + j * k + i, none⟩) hb).trans (hj j x hjx i u hu)⟩
theorem SlAt.low {α : Type} {Q : Nat → Prop} {enc : α → List Value} {k : Nat} {w : World} {v : Value} {xs : List α} (h : SlAt Q enc k w v xs) (hk : 0 < k) (hen : ∀ x, (enc x).length = k) : SlAt (fun b => Q b ∧ b < w.heap.size) enc k w v xs := by
  obtain ⟨p, cap, hv, hc, hm, hx⟩ := h
  refine ⟨p, cap, hv, hc, hm, fun hn => ?_⟩
  obtain ⟨b, o, hp, hQ, hj⟩ := hx hn
  have hb0 : b < w.heap.size := by
    cases xs with
    | nil => exact absurd rfl hn
    | cons x r =>
      have hl : (enc x)[0]? = some ((enc x)[0]'(by rw [hen]; exact hk)) := List.getElem?_eq_getElem _
      exact block_lt_of_cell (hj 0 x rfl 0 _ hl)
  exact ⟨b, o, hp, ⟨⟨hQ.1, hb0⟩, hQ.2⟩, hj⟩
theorem SlAt.onB {α : Type} {Q : Nat → Prop} {enc : α → List Value} {k B : Nat} {w w' : World} {v : Value} {xs : List α} (h : SlAt Q enc k w v xs) (hb : Below B w w') (hq : ∀ b, Q b → b < B) : SlAt Q enc k w' v xs := by
  obtain ⟨p, cap, hv, hc, hm, hx⟩ := h
  refine ⟨p, cap, hv, hc, hm, fun hn => ?_⟩
  obtain ⟨b, o, hp, hQ, hj⟩ := hx hn
  exact ⟨b, o, hp, hQ, fun j x hjx i u hu => (hb.cell (p := ⟨b, o + j * k + i, none⟩) (hq b hQ.1)).trans (hj j x hjx i u hu)⟩
theorem HeadsIn.onB {Q : Nat → Prop} {B : Nat} {w w' : World} {hs : List Value} {rs : List Rw} (h : HeadsIn Q w hs rs) (hb : Below B w w') (hq : ∀ b, Q b → b < B) : HeadsIn Q w' hs rs := ⟨h.1, fun j x r h1 h2 => SlAt.onB (h.2 j x r h1 h2) hb hq⟩
theorem enters38 : ∀ args w, (callFunc 65 args).run Tryz.prog w = .ok (.enter 65 args) w := enters_of Tryz.func65 (by kernel_rfl) rfl
end Go.Proofs.YtlbjbkhcnafhcaaGreat
namespace Go.Proofs
open Go.Shelf
end Go.Proofs
namespace Go.Proofs.YtlbjbkhcnafhcaaGreat
open Go.RowKit Go.Sort Go.Shelf

theorem heads_one {Q : Nat → Prop} {w : World} {hs : List Value} {rs : List Rw} (h : HeadsIn Q w hs rs) : ∀ y ∈ hs, ∀ c ∈ one y, c.oneCell' = true := by
  intro y hy c hc
  simp [one] at hc
  subst hc
  obtain ⟨i, hi⟩ := List.getElem?_of_mem hy
  have hl : i < hs.length := (List.getElem?_eq_some_iff.1 hi).1
  have hl' : i < rs.length := by rw [← h.1]; exact hl
  exact slice_one (h.2 i c _ hi (List.getElem?_eq_getElem hl'))
theorem heads_append {Q : Nat → Prop} {w : World} {hs ks : List Value} {rs qs : List Rw} (h : HeadsIn Q w hs rs) (k : HeadsIn Q w ks qs) : HeadsIn Q w (hs ++ ks) (rs ++ qs) := by
  refine ⟨by simp [h.1, k.1], fun j x r hx hr => ?_⟩
  by_cases hj : j < hs.length
  · rw [List.getElem?_append_left hj] at hx
    rw [List.getElem?_append_left (by rw [← h.1]; exact hj)] at hr
    exact h.2 j x r hx hr
  · rw [List.getElem?_append_right (by omega)] at hx
    rw [List.getElem?_append_right (by rw [← h.1]; omega), ← h.1] at hr
    exact k.2 _ x r hx hr
end Go.Proofs.YtlbjbkhcnafhcaaGreat
