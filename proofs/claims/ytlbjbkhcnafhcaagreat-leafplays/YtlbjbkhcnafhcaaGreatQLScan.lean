/-
  What Scan of package leaf returns, for every leaf, every name and all times.
-/
import Derived.Test.YtlbjbkhcnafhcaaGreatQLRows
import Derived.Test.YtlbjbkhcnafhcaaGreatP28LFit
import Derived.Test.YtlbjbkhcnafhcaaGreatQCanon
namespace Go.Proofs.YtlbjbkhcnafhcaaGreat
open Go.RowKit Go.Sort Go.Shelf Go.Maps

theorem ofL_get (nm : ByteArray) : ∀ (k : Nat) (l : List Sm) (i : Int), i ∈ SN.ofL nm k l → ∃ (j : Nat) (s : Sm), i = ((k + j : Nat) : Int) ∧ l[j]? = some s
  | _, [], _, h => by simp [SN.ofL] at h
  | k, y :: r, i, h => by
    unfold SN.ofL at h
    split at h
    · rcases List.mem_cons.1 h with e | h
      · exact ⟨0, y, by rw [e]; rfl, rfl⟩
      · obtain ⟨j, s, e, hs⟩ := ofL_get nm (k + 1) r i h
        exact ⟨j + 1, s, by rw [e]; congr 1; omega, by simpa using hs⟩
    · obtain ⟨j, s, e, hs⟩ := ofL_get nm (k + 1) r i h
      exact ⟨j + 1, s, by rw [e]; congr 1; omega, by simpa using hs⟩
theorem rowsI_at {l : List Sm} {R : List (List Sp)} {a z : Int} {j : Nat} {s : Sm} {q : List Sp} (hs : l[j]? = some s) (hq : R[j]? = some q) : rowsI l R a z (j : Int) = (RN.rngS q a z).map (rowSm s) := by
  obtain ⟨h1, e1⟩ := List.getElem?_eq_some_iff.1 hs
  obtain ⟨h2, e2⟩ := List.getElem?_eq_some_iff.1 hq
  unfold rowsI rowSm
  rw [Int.toNat_natCast, getElem!_pos l j h1, getElem!_pos R j h2, e1, e2]
theorem Iv.sizes {pts : List Pt} {l : List Sm} {R : List (List Sp)} (h : Iv pts l R) (hz : ∀ p ∈ pts, List.length p.ks ≤ 4 ∧ List.length p.vs ≤ 4) {j : Nat} {s : Sm} {q : List Sp} (hs : l[j]? = some s) (hq : R[j]? = some q) : List.length s.ks ≤ 1000 ∧ ∀ y ∈ q, List.length y.vs ≤ 1000 := by
  have hall : ∀ y ∈ q, List.length s.ks ≤ 4 ∧ List.length y.vs ≤ 4 := fun y hy => by
    obtain ⟨p, hp, e⟩ := List.mem_map.1 (h.pm.mem_iff.1 (mem_flat.2 ⟨j, q, hs, hq, hy⟩))
    unfold prP kyP spP at e
    injection e with e1 e2
    have := hz p hp
    rw [← e1, ← e2]; exact this
  refine ⟨?_, fun y hy => by have := (hall y hy).2; omega⟩
  cases hqq : q with
  | nil => exact absurd hqq (h.ne q (List.mem_of_getElem? hq))
  | cons y r => have := (hall y (by rw [hqq]; simp)).1; omega
theorem flat_take_len {l : List Sm} {R : List (List Sp)} {a z : Int} {L : List Int} (k : Nat) : ((L.take k).flatMap (rowsI l R a z)).length ≤ (L.flatMap (rowsI l R a z)).length := by
  conv => rhs; rw [← List.take_append_drop k L, List.flatMap_append, List.length_append]
  omega
theorem takeI {l : List Sm} {R : List (List Sp)} {a z : Int} {L : List Int} {k : Nat} {i : Int} (h : L[k]? = some i) : (L.take (k + 1)).flatMap (rowsI l R a z) = (L.take k).flatMap (rowsI l R a z) ++ rowsI l R a z i := by
  rw [List.take_add_one, h]; simp
def scE (S : List Sc) (nm : ByteArray) : Int := if atS S nm < 0 then 50 else 0
def scC (S : List Sc) (nm : ByteArray) : List Cl := if atS S nm < 0 then [] else colsS S[(atS S nm).toNat]!
def scR (S : List Sc) (pts : List Pt) (nm : ByteArray) (a z : Int) : List Rw := if atS S nm < 0 then [] else sortR (scanR pts nm a z)
def ScP (w : World) (S : List Sc) (pts : List Pt) (nm : ByteArray) (a z : Int) (e : Ending) (w' : World) : Prop :=
  ∃ v, e = .returned (.tuple #[v, .int .i64 (scE S nm)]) ∧ TabIn (fun k => w.heap.size ≤ k) w' v (scC S nm) (scR S pts nm a z) ∧ Below w.heap.size w w'
theorem nil_tabIn (Q : Nat → Prop) (w : World) : TabIn Q w (.agg #[.slice none 0 0, .slice none 0 0]) [] [] := ⟨_, _, rfl, SlAt.nil _ _ _ _, [], SlAt.nil _ _ _ _, ⟨rfl, fun j h r h1 _ => by simp at h1⟩⟩
theorem tab_set {Q : Nat → Prop} {w : World} {v u : Value} {cs : List Cl} {rs : List Rw} {z i : Nat} (h : TabIn Q w v cs rs) (hq : ∀ g, Q g → g ≠ z) : TabIn Q (w.setCell ⟨z, i, none⟩ u) v cs rs := by
  obtain ⟨c, r, hv, h1, hs, h2, h3⟩ := h
  exact ⟨c, r, hv, slSet h1 hq, hs, slSet h2 hq, h3.1, fun j x q g1 g2 => slSet (h3.2 j x q g1 g2) hq⟩
set_option maxRecDepth 100000 in
set_option maxHeartbeats 2000000 in
theorem scan_none {B : Nat} {P : Nat → Prop} {w : World} {b : Nat} {S : List Sc} {room : Int} {x : Lx} {pts : List Pt} {nm : ByteArray} {a z : Int} (h : Lf B P w b S room x pts) (hn : atS S nm < 0) :
    Calls Tryz.prog 13 #[dp b, .string nm, .int .i64 a, .int .i64 z] w (ScP w S pts nm a z) := by
  obtain ⟨ps, cs, hsc, hsch⟩ := sc_slice h
  obtain ⟨sv0, m0, l0, hdk⟩ := h.len
  have hB0 := (Below.refl w.heap.size w).alloc (Nat.le_refl _) (.cells #[.slice none 0 0, .slice none 0 0] 44)
  have HB0 := hid hB0
  have KB0 := hid (alloc_block w (.cells #[.slice none 0 0, .slice none 0 0] 44))
  have k0 := block_cell (hdk.on hB0).blk
  have hk0 : (w.alloc (.cells #[.slice none 0 0, .slice none 0 0] 44)).cell? ⟨b, 0, none⟩ = some (.slice ps S.length cs) := by rw [k0 0]; show some x.sc = _; rw [hsc]
  have HSc : Hid (SchsAt (w.alloc (.cells #[.slice none 0 0, .slice none 0 0] 44)) (.slice ps S.length cs) S) := by show SchsAt _ _ _; rw [← hsc]; exact hsch.on hB0
  have HN := hid hn
  have E1 : Hid (scE S nm = 50) := if_pos hn
  have E2 : Hid (scC S nm = []) := if_pos hn
  have E3 : Hid (scR S pts nm a z = []) := if_pos hn
  clear h hsc hsch hdk hB0 k0 hn
  go_enter Tryz.func13, Tryz.ntmps13
  go_wp2_with (first
    | (go_at_call 33; refine (sfind_none HSc.out HN.out).mono ?_; rintro e w1 ⟨rfl, hb1⟩; have HB1 := hid (HB0.out.trans (hb1.mono HB0.out.size)); have KB1 := hid (block_on KB0.out hb1); have k1 := block_cell KB1.out; have f1 := frozen_no KB1.out; have k1a : ∀ (A : Obj) (i : Nat), (w1.alloc A).cell? ⟨w.heap.size, i, none⟩ = (#[.slice none 0 0, .slice none 0 0] : Array Value)[i]? := fun A i => block_cell (block_on KB1.out ((Below.refl _ _).alloc (Nat.le_refl _) A)) i; have f1a : ∀ (A : Obj) (i : Nat), (w1.alloc A).frozen? ⟨w.heap.size, i, none⟩ = false := fun A i => frozen_no (block_on KB1.out ((Below.refl _ _).alloc (Nat.le_refl _) A)) i; clear hb1 hk0))
  have KA := block_on KB1.out ((Below.refl _ _).alloc (Nat.le_refl _) (.cells #[.string ⟨#[]⟩, .slice none 0 0, .slice none 0 0] 52))
  have KF := Joins.block_setCell (i := 1) (Joins.block_setCell (i := 0) KA (.slice none 0 0)) (.slice none 0 0)
  have HBF : Below w.heap.size w (((w1.alloc (.cells #[.string ⟨#[]⟩, .slice none 0 0, .slice none 0 0] 52)).setCell ⟨w.heap.size, 0, none⟩ (.slice none 0 0)).setCell ⟨w.heap.size, 1, none⟩ (.slice none 0 0)) := ((HB1.out.alloc HB1.out.size _).setCell (Nat.le_refl _) _).setCell (Nat.le_refl _) _
  generalize (((w1.alloc (.cells #[.string ⟨#[]⟩, .slice none 0 0, .slice none 0 0] 52)).setCell ⟨w.heap.size, 0, none⟩ (.slice none 0 0)).setCell ⟨w.heap.size, 1, none⟩ (.slice none 0 0)) = WF at KF HBF ⊢
  have kcf := block_cell KF
  clear KF KA k1 f1 k1a f1a
  exact bodyPost_ret (v := .tuple #[.agg #[.slice none 0 0, .slice none 0 0], .int .i64 50]) (by simp [results, Tryz.results13, go_sem, kcf]) rfl ⟨_, by rw [E1.out], by rw [E2.out, E3.out]; exact nil_tabIn _ _, HBF⟩
set_option maxRecDepth 100000 in
set_option maxHeartbeats 4000000 in
theorem scan_some {B : Nat} {P : Nat → Prop} {w : World} {b : Nat} {S : List Sc} {room : Int} {x : Lx} {pts : List Pt} {nm : ByteArray} {a z : Int} {J : Nat} (h : Lf B P w b S room x pts) (hc : checkS S = 0) (hJ : J < S.length) (hn : atS S nm = (J : Int)) (hl : pts.length ≤ 254) (hz : ∀ p ∈ pts, List.length p.ks ≤ 4 ∧ List.length p.vs ≤ 4) :
    Calls Tryz.prog 13 #[dp b, .string nm, .int .i64 a, .int .i64 z] w (ScP w S pts nm a z) := by
  obtain ⟨ps, cs, hsc, hsch⟩ := sc_slice h
  obtain ⟨l, R, hlk, hi⟩ := h.lk
  have hB0 := (Below.refl w.heap.size w).alloc (Nat.le_refl _) (.cells #[.slice none 0 0, .slice none 0 0] 44)
  have HB0 := hid hB0
  have KB0 := hid (alloc_block w (.cells #[.slice none 0 0, .slice none 0 0] 44))
  have k0 := block_cell (hlk.on hB0).dk.blk
  have hk0 : (w.alloc (.cells #[.slice none 0 0, .slice none 0 0] 44)).cell? ⟨b, 0, none⟩ = some (.slice ps S.length cs) := by rw [k0 0]; show some x.sc = _; rw [hsc]
  have HSc : Hid (SchsAt (w.alloc (.cells #[.slice none 0 0, .slice none 0 0] 44)) (.slice ps S.length cs) S) := by show SchsAt _ _ _; rw [← hsc]; exact hsch.on hB0
  have HN := hid hn
  have hn0 : ¬ atS S nm < 0 := by omega
  have E1 : Hid (scE S nm = 0) := if_neg hn0
  have E2 : Hid (scC S nm = colsS S[J]!) := by show _ = _; unfold scC; rw [if_neg hn0, hn, Int.toNat_natCast]
  have E3 : Hid (scR S pts nm a z = sortR (scanR pts nm a z)) := if_neg hn0
  have hmay : mayB S[J]! = true := by rw [getElem!_pos S J hJ]; exact (check_parts0 hc).2.1 _ (List.getElem_mem hJ)
  have HCl : Hid ((S[J]!).ks.length + (S[J]!).vs.length ≤ 3000000) := by
    simp only [mayB, kindsB, Bool.and_eq_true, decide_eq_true_eq] at hmay
    show _ ≤ _; omega
  have HLk := hid hlk
  have HI := hid hi
  have HZ := hid hz
  have HLn : Hid (l.length ≤ 254) := Nat.le_trans hi.l_le hl
  have HPl := hid hl
  generalize hs0 : S[J]! = s at *
  have HS0 := hid hs0
  clear h hsc hsch hB0 k0 hn hn0 hmay hs0 hlk hi hz hl hJ hc
  go_enter Tryz.func13, Tryz.ntmps13
  go_upto_region 4 with (first
    | (go_at_call 33; refine (sfind_some HSc.out HN.out).mono ?_; rintro e w1 ⟨pk, nk, ck, pv, nv, cv, rfl, hck, hcv, hb1⟩; rw [HS0.out] at hck hcv ⊢; have HCk := hid hck; have HCv := hid hcv; have HB1 := hid (HB0.out.trans (hb1.mono HB0.out.size)); have KB1 := hid (block_on KB0.out hb1); clear hb1 hk0 hck hcv))
  have hb2 := (Below.refl w1.heap.size w1).alloc (Nat.le_refl _) (.cells #[.string s.nm, .slice pk nk ck, .slice pv nv cv] 52)
  have HB2 := hid (HB1.out.trans (hb2.mono HB1.out.size))
  have KX := hid (alloc_block w1 (.cells #[.string s.nm, .slice pk nk ck, .slice pv nv cv] 52))
  have KB2 := hid (block_on KB1.out hb2)
  have HCk2 := hid (HCk.out.on hb2)
  have HCv2 := hid (HCv.out.on hb2)
  have HL2 := hid (HLk.out.on HB2.out)
  clear hb2 HCk HCv HB1 KB1 HLk
  generalize w1.heap.size = BX at *
  generalize (w1.alloc (.cells #[.string s.nm, .slice pk nk ck, .slice pv nv cv] 52)) = W at *
  go_wp2_with (first
    | (go_at_call 34; refine (SN.of_any (nm := nm) HL2.out.dk (Nat.le_trans HLn.out (by decide))).mono ?_; rintro e w3 ⟨p3, c3, rfl, hi3, hb3⟩; have HB3 := hid hb3; have HI3 := hid hi3; clear hi3 hb3))
  have hIm : ∀ i ∈ SN.ofL nm 0 l, ∃ (j : Nat) (y : Sm), i = (j : Int) ∧ l[j]? = some y := fun i hi => by
    obtain ⟨j, y, e, hy⟩ := ofL_get nm 0 l i hi
    exact ⟨j, y, by rw [e]; congr 1; omega, hy⟩
  have HIm := hid hIm
  have hpm := HI.out.scan nm a z
  have hTot : ((SN.ofL nm 0 l).flatMap (rowsI l R a z)).length ≤ 254 := by
    rw [hpm.length_eq]
    unfold scanR
    rw [List.length_map]
    exact Nat.le_trans (List.length_filter_le _ _) HPl.out
  have HTot := hid hTot
  have HPm := hid hpm
  have hn3 := SN.ofL_len nm 0 l
  clear hIm hpm hTot
  generalize SN.ofL nm 0 l = L at *
  have HL3 := hid (HL2.out.on HB3.out)
  have HB13 := hid (HB2.out.trans (HB3.out.mono HB2.out.size))
  have KX3 := hid (block_on KX.out HB3.out)
  have KB3 := hid (block_on KB2.out HB3.out)
  have HCk3 := hid (HCk2.out.on HB3.out)
  have HCv3 := hid (HCv2.out.on HB3.out)
  clear HL2 HB2 HB3 KX KB2 HCk2 HCv2
  generalize hln : L.length = n3 at *
  have HLn3 := hid hln
  have hn254 : n3 ≤ 254 := Nat.le_trans hn3 HLn.out
  clear hln hn3
  go_loopw [12, 33] (fun v i wr => ∃ (k : Nat) (hs' : List Value), k ≤ n3 ∧ i = .int .i64 k ∧ Hid (Own one 1 32 w3.heap.size wr v hs') ∧ Hid (HeadsP any wr hs' ((L.take k).flatMap (rowsI l R a z))) ∧ Hid (Below w3.heap.size w3 wr)) (fun _ i _ => n3 - (intOf i).toNat)
  case atStart => exact ⟨0, [], by omega, rfl, Own.nil _ _ _ _ _, HeadsP.nil _ _, Below.refl _ _⟩
  case round =>
    obtain ⟨k, hs', hk, rfl, HO, HR, HB⟩ := hrel
    by_cases hlt : k < n3
    · have hk' : k < L.length := by rw [HLn3.out]; exact hlt
      obtain ⟨i, hi⟩ : ∃ i, L[k]? = some i := ⟨L[k], List.getElem?_eq_getElem hk'⟩
      obtain ⟨j, y, rfl, hy⟩ := HIm.out i (List.mem_of_getElem? hi)
      obtain ⟨p9, c9, hve, hc9, -, hx9⟩ := HI3.out
      rw [HLn3.out] at hve
      cases hve
      obtain ⟨g, o, rfl, -, hcell⟩ := hx9 (by intro e; rw [e] at hk'; simp at hk')
      have d0 : wr.cell? ⟨g, o + k, none⟩ = some (.int .i64 (j : Int)) := by have := SN.cell_onB (hcell k _ hi 0 _ rfl) HB.out; rw [Nat.mul_one, Nat.add_zero] at this; exact this
      have hcap9 := hc9.1
      rw [HLn3.out] at hcap9
      have HT := hid (takeI (l := l) (R := R) (a := a) (z := z) hi)
      obtain ⟨r, q, hr1, hq1, hrk1⟩ := rs_at HL3.out hy
      rw [rowsI_at hy hq1] at HT
      obtain ⟨hz1, hz2⟩ := HI.out.sizes HZ.out hy hq1
      have HQl := hid (Nat.le_trans (HI.out.q_le hq1) HPl.out)
      have HY := hid hy
      have HQ1 := hid hq1
      have HZ1 := hid hz1
      have HZ2 := hid hz2
      have hlen' : hs'.length ≤ 254 := by rw [HR.out.1]; exact Nat.le_trans (flat_take_len k) HTot.out
      have HLn' := hid hlen'
      have hrl : ((RN.rngS q a z).map (rowSm y)).length ≤ 254 := by rw [List.length_map]; exact Nat.le_trans (RN.rng_len q a z) HQl.out
      have HRl := hid hrl
      have HL4 := hid (HL3.out.on HB.out)
      clear hi hy hx9 hcell hr1 hq1 hrk1 hz1 hz2 hlen' hk' hrl
      obtain ⟨pr, cr, rfl⟩ := own_formN HO.out rfl
      go_wp2_with (first
        | (go_at_call 35; refine (rowsOf_any (a := a) (z := z) HL4.out HY.out HQ1.out HLn.out HQl.out HZ1.out HZ2.out).mono ?_; rintro e w4 ⟨v4, hs4, rfl, ho4, hh4, hb4⟩; have hf4 := own_formN ho4 rfl; obtain ⟨p4, c4, rfl⟩ := hf4; have HO4 := hid ho4; have HH4 := hid hh4; have HB4 := hid hb4; clear ho4 hh4 hb4)
        | (at_builtin; refine app_N (N := bsz 1) (B := w3.heap.size) elem35.N one_len (headsP_cells HH4.out) rfl _ _ rfl rfl (own_kp (T := fun _ => False) HO.out (Kp.of HB4.out) (fun _ _ => id)) rfl (Own.sl HO4.out one_len (by have h1 := HH4.out.1; have := HRl.out; unfold bsz; simp; omega)) (bs24 (Nat.le_trans HLn'.out (by decide)) (by have h1 := HH4.out.1; have := HRl.out; omega)) (by decide) (by have := HB.out.size; have := HB4.out.size; omega) ?_; intro v6 w6 hown6 hg6; have HO6 := hid hown6; have HG6 := hid hg6; clear hown6 hg6))
      have hO4' := own_kp (T := fun _ => False) HO.out (Kp.of HB4.out) (fun _ _ => id)
      have hK6 : Kp (fun k => (Value.slice pr hs'.length cr).ownBlock = some k) w4 w6 := Kp.grown HG6.out (fun k e => e)
      refine ⟨⟨k + 1, _, by omega, by go_num, HO6.out, ?_, ?_⟩, by simp [intOf]; omega⟩
      · show HeadsP _ _ _ _
        rw [HT.out]
        exact HeadsP.app ((HR.out.on HB4.out).kp hK6 (fun k hk => off32 hO4' hk)) (HH4.out.kp hK6 (fun k hk => off32 hO4' hk))
      · have hb := hK6.below (B := w3.heap.size) (by have := HB.out.size; have := HB4.out.size; omega) (fun k hk => (own_at hO4' hk).1)
        exact (HB.out.trans (HB4.out.mono HB.out.size)).trans hb
    · have hks : k = n3 := by omega
      subst hks
      have hta : L.take k = L := List.take_of_length_le (by rw [HLn3.out]; exact Nat.le_refl _)
      rw [hta] at HR
      have hlen' : hs'.length ≤ 254 := by rw [HR.out.1]; exact HTot.out
      have HSl := hid (Own.sl HO.out one_len (by unfold bsz; simp; omega))
      have HB5 := hid (HB13.out.trans (HB.out.mono HB13.out.size))
      have KX5 := hid (block_on KX3.out HB.out)
      have KB5 := hid (block_on KB3.out HB.out)
      have HCk5 := hid (HCk3.out.on HB.out)
      have HCv5 := hid (HCv3.out.on HB.out)
      obtain ⟨pr, cr, rfl⟩ := own_formN HO.out rfl
      have k5 := block_cell KX5.out
      go_wp2_with (first
        | (go_at_call 37; refine (scols_any (s := s) ⟨_, _, rfl, HCk5.out, HCv5.out⟩ HCl.out).mono ?_; rintro e w6 ⟨u6, rfl, hc6, hb6⟩; have hf6 := hc6; obtain ⟨p6, c6, rfl, -⟩ := hf6; have HC6 := hid hc6; have HB6 := hid hb6; have KB6 := hid (block_on KB5.out hb6); clear hc6 hb6)
        | (go_at_call 36; refine (canon_any (cs := colsS s) (rs := L.flatMap (rowsI l R a z)) ⟨_, _, rfl, HC6.out, hs', (SlAt.on HSl.out HB6.out).imp (fun _ _ => trivial), (HR.out.on HB6.out).at⟩).mono ?_; rintro e w7 ⟨v7, rfl, ht7, hb7⟩; have HT7 := hid ht7; obtain ⟨tc, tr, rfl, ⟨pc7, cc7, rfl, -⟩, hs7, ⟨pr7, cr7, rfl, -⟩, -⟩ := ht7; have HB7 := hid hb7; have KB7 := hid (block_on KB6.out hb7); have k7 := block_cell KB7.out; have f7 := frozen_no KB7.out; clear hb7))
      have KF := Joins.block_setCell (i := 1) (Joins.block_setCell (i := 0) KB7.out (.slice pc7 (colsS s).length cc7)) (.slice pr7 hs7.length cr7)
      have hb7 : Below w.heap.size w w7 := (HB5.out.trans (HB6.out.mono HB5.out.size)).trans (HB7.out.mono (Nat.le_trans HB5.out.size HB6.out.size))
      have HBF : Below w.heap.size w ((w7.setCell ⟨w.heap.size, 0, none⟩ (.slice pc7 (colsS s).length cc7)).setCell ⟨w.heap.size, 1, none⟩ (.slice pr7 hs7.length cr7)) := (hb7.setCell (Nat.le_refl _) _).setCell (Nat.le_refl _) _
      have hTF := tab_set (tab_set HT7.out (z := w.heap.size) (i := 0) (u := .slice pc7 (colsS s).length cc7) (fun g hg => by have := HB5.out.size; have := HB6.out.size; have := lt_of_block KB5.out; have hg' : w6.heap.size ≤ g := hg; omega)) (z := w.heap.size) (i := 1) (u := .slice pr7 hs7.length cr7) (fun g hg => by have := HB5.out.size; have := HB6.out.size; have := lt_of_block KB5.out; have hg' : w6.heap.size ≤ g := hg; omega)
      generalize ((w7.setCell ⟨w.heap.size, 0, none⟩ (.slice pc7 (colsS s).length cc7)).setCell ⟨w.heap.size, 1, none⟩ (.slice pr7 hs7.length cr7)) = WF at KF HBF hTF ⊢
      have kcf := block_cell KF
      clear KF k7 f7 k5
      refine bodyPost_ret (v := .tuple #[.agg #[.slice pc7 (colsS s).length cc7, .slice pr7 hs7.length cr7], .int .i64 0]) (by simp [results, Tryz.results13, go_sem, kcf]) rfl ⟨_, by rw [E1.out], ?_, HBF⟩
      rw [E2.out, E3.out, ← sortR_perm_eq HPm.out]
      exact hTF.imp fun g hg => by have := HB5.out.size; have := HB6.out.size; have hg' : w6.heap.size ≤ g := hg; omega
theorem scan_any {B : Nat} {P : Nat → Prop} {w : World} {b : Nat} {S : List Sc} {room : Int} {x : Lx} {pts : List Pt} {nm : ByteArray} {a z : Int} (h : Lf B P w b S room x pts) (hc : checkS S = 0) (hl : pts.length ≤ 254) (hz : ∀ p ∈ pts, List.length p.ks ≤ 4 ∧ List.length p.vs ≤ 4) :
    Calls Tryz.prog 13 #[dp b, .string nm, .int .i64 a, .int .i64 z] w (ScP w S pts nm a z) := by
  by_cases hn : atS S nm < 0
  · exact scan_none h hn
  · obtain ⟨j, hj, he⟩ := at_nat hn
    exact scan_some h hc hj he hl hz
end Go.Proofs.YtlbjbkhcnafhcaaGreat
