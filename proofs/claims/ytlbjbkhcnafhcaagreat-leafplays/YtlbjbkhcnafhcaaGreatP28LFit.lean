/-
  What follows for a point that fits; what Write makes of a leaf's points; what stays of a leaf while one part of it turns.
  What Write of package leaf returns, and what it leaves.
-/
import Derived.Test.YtlbjbkhcnafhcaaGreatQLHas
import Derived.Test.YtlbjbkhcnafhcaaGreatP22RCheck
import Derived.Test.YtlbjbkhcnafhcaaGreatQRnAdd2
namespace Go.Proofs.YtlbjbkhcnafhcaaGreat
open Go.RowKit Go.Sort Go.Shelf Go.Maps

theorem fit_at {S : List Sc} {p : Pt} (hc : checkS S = 0) (hf : fitsS S p = 0) : ∃ (j : Nat) (s : Sc), S[j]? = some s ∧ atS S p.sc = (j : Int) ∧ s.nm = p.sc ∧ mayB s = true ∧ fitP s p = true := by
  unfold fitsS at hf
  split at hf
  · omega
  · rename_i h0
    split at hf
    · rename_i hp
      obtain ⟨j, hj, hat⟩ := at_nat h0
      obtain ⟨s, hs, hn⟩ := atS_is hat
      rw [hat, Int.toNat_natCast, getElem!_pos S j hj] at hp
      rw [List.getElem?_eq_getElem hj] at hs
      have hs' := Option.some.inj hs
      exact ⟨j, s, by rw [List.getElem?_eq_getElem hj, hs'], hat, hn, (check_parts0 hc).2.1 s (by rw [← hs']; exact List.getElem_mem hj), by rw [← hs']; exact hp⟩
    · omega
theorem fit_facts {S : List Sc} {p : Pt} (hc : checkS S = 0) (hf : fitsS S p = 0) : List.length p.ks ≤ 4 ∧ List.length p.vs ≤ 4 ∧ p.sc.size ≤ 24 ∧ SN.okK p.ks = true ∧ 0 ≤ p.tm ∧ p.tm < 1099511627776 := by
  obtain ⟨j, s, -, -, hn, hm, hp⟩ := fit_at hc hf
  simp only [mayB, kindsB, Bool.and_eq_true, decide_eq_true_eq] at hm
  simp only [fitP, rowB, Bool.and_eq_true, decide_eq_true_eq] at hp
  have hw := word_name hm.1
  simp only [nameB, Bool.and_eq_true, decide_eq_true_eq] at hw
  refine ⟨by rw [hp.1.1]; omega, by rw [hp.2.1.1]; omega, by rw [← hn]; omega, ?_, hp.2.2.1, hp.2.2.2⟩
  unfold SN.okK
  rw [List.all_eq_true]
  intro v hv
  obtain ⟨i, hi, rfl⟩ := List.getElem_of_mem hv
  have := hp.1.2 i hi
  simp only [fitB, Bool.and_eq_true] at this
  rw [getElem!_pos p.ks i hi] at this
  exact this.2
/- What Write answers, and what it leaves. -/
def wrN (S : List Sc) (room : Int) (pts : List Pt) (p : Pt) : Bool := decide (fitsS S p = 0) && (!hasP pts p && decide ((pts.length : Int) < room))
def wrE (S : List Sc) (room : Int) (pts : List Pt) (p : Pt) : Int := if fitsS S p = 0 then (if hasP pts p then 0 else if (pts.length : Int) < room then 0 else 80) else fitsS S p
def wrL (S : List Sc) (room : Int) (pts : List Pt) (p : Pt) : List Pt := if wrN S room pts p then pts ++ [p] else pts
def Ov (w w' : World) : Prop := Below w.heap.size w w'
def Wr3 (B : Nat) (P : Nat → Prop) (w : World) (b : Nat) (S : List Sc) (room : Int) (x : Lx) (pts : List Pt) (w' : World) : Prop := ∃ x', Lf B P w' b S room x' pts ∧ Kp (Tl b x) w w' ∧ ∀ k, Tl b x' k → Tl b x k ∨ w.heap.size ≤ k
def WrP (B : Nat) (P : Nat → Prop) (w : World) (b : Nat) (S : List Sc) (room : Int) (x : Lx) (pts : List Pt) (p : Pt) (e : Ending) (w' : World) : Prop :=
  e = .returned (.tuple #[.bool (wrN S room pts p), .int .i64 (wrE S room pts p)]) ∧ Wr3 B P w b S room x (wrL S room pts p) w'
/- The parts of a leaf while another one turns. -/
theorem Lk.run_not {B : Nat} {P : Nat → Prop} {w : World} {b : Nat} {S : List Sc} {room : Int} {x : Lx} {l : List Sm} {R : List (List Sp)} {n : Nat} (h : Lk B P w b S room x l R n) {r : Rm} (hr : r ∈ x.rs) {k : Nat} (hk : r.T k) : ¬ SN.Tc b x.sv x.m k ∧ k ≠ x.sm := by
  obtain ⟨j, q, _, _, hq⟩ := h.rl.get hr
  obtain ⟨cs, t, fz, hc, ht⟩ := hq.T_kind k hk
  refine ⟨h.dk.T_not hc (by rcases ht with e | e | e <;> rw [e] <;> decide) (by rcases ht with e | e | e <;> rw [e] <;> decide), fun e => ?_⟩
  obtain ⟨D, hD, _⟩ := h.map
  obtain ⟨es, c, hb⟩ := pmap_blk hD
  rw [e, hb] at hc; cases hc
theorem Lk.sm_not {B : Nat} {P : Nat → Prop} {w : World} {b : Nat} {S : List Sc} {room : Int} {x : Lx} {l : List Sm} {R : List (List Sp)} {n : Nat} (h : Lk B P w b S room x l R n) : ¬ SN.Tc b x.sv x.m x.sm := by
  obtain ⟨D, hD, _⟩ := h.map
  obtain ⟨es, c, hb⟩ := pmap_blk hD
  rintro (e | e | e)
  · rw [e, h.dk.blk] at hb; cases hb
  · obtain ⟨hs, ho, _⟩ := h.dk.row
    obtain ⟨c', f, hc⟩ := own_kind ho e
    rw [hb] at hc; cases hc
  · exact h.ne e
/- Behind a change of the dictionary alone. -/
theorem lk_dict {B : Nat} {P : Nat → Prop} {w w' : World} {b : Nat} {S : List Sc} {room : Int} {x : Lx} {l : List Sm} {R : List (List Sp)} {n : Nat} (h : Lk B P w b S room x l R n) (hk : Kp (SN.Tc b x.sv x.m) w w') :
    SchB w' x.sc S ∧ (∃ D : D1, w'.ownsMap Tryz.prog 3 pElem x.sm l.length D ∧ AgR D (x.rs.map Rm.b)) ∧ Rl B P w' x.rs R := by
  obtain ⟨D, hD, hA⟩ := h.map
  exact ⟨h.sch.kp hk (fun k ⟨c, t, fz, hc, e⟩ => h.dk.T_not hc (by rcases e with e | e <;> rw [e] <;> decide) (by rcases e with e | e <;> rw [e] <;> decide)), ⟨D, pmap_kp hD hk h.sm_not, hA⟩, h.rl.kp hk (fun r hr k hk => (h.run_not hr hk).1) (fun k hk => by obtain ⟨-, c, fz, hc⟩ := hk; exact h.dk.T_not hc (by decide) (by decide))⟩
/- The leaf's count of points turned. -/
theorem dk_pt {fx : SN.Fx} {B : Nat} {P : Nat → Prop} {w : World} {b : Nat} {most : Int} {sv : Value} {m : Nat} {l : List Sm} (h : SN.Dk fx B P w b most sv m l) (v : Value) : SN.Dk ⟨fx.sc, fx.rm, v, fx.sm⟩ B P (w.setCell ⟨b, 2, none⟩ v) b most sv m l := by
  have hk : Kp (fun k => k = b) w (w.setCell ⟨b, 2, none⟩ v) := Kp.set (T := fun k => k = b) rfl _
  obtain ⟨n1, n2, n3⟩ := SN.dk_ne h
  have hd := h.dn.kp hk (fun g hg e => n1 (by rw [← e]; exact hg)) n3 (fun k hk e => by
    obtain ⟨-, c, fz, hc⟩ := hk
    rw [e, h.blk] at hc; cases hc)
  exact hd.dk h.bB (RN.set_block h.blk v)
/- One run of a leaf grown. -/
theorem rl_put {B : Nat} {P : Nat → Prop} {w w' : World} {rs : List Rm} {R : List (List Sp)} {j : Nat} {r r' : Rm} {q q' : List Sp} (h : Rl B P w rs R) (hr : rs[j]? = some r) (hq : R[j]? = some q) (hk : Kp r.T w w') (hn : RN.Rk B P w' r'.b r'.sv r'.pv q') (ht : ∀ k, r'.T k → r.T k ∨ w.heap.size ≤ k) : Rl B P w' (rs.set j r') (R.set j q') := by
  have hjr := (List.getElem?_eq_some_iff.1 hr).1
  have hjq := (List.getElem?_eq_some_iff.1 hq).1
  refine ⟨by simp [h.len], fun i s z h1 h2 => ?_, fun i i' s s' hne h1 h2 k hk1 hk2 => ?_⟩
  · rw [List.getElem?_set] at h1 h2
    by_cases e : j = i
    · subst e
      rw [if_pos rfl, if_pos hjr] at h1
      rw [if_pos rfl, if_pos hjq] at h2
      cases h1; cases h2
      exact hn
    · rw [if_neg e] at h1 h2
      exact (h.run i s z h1 h2).kp hk (fun k hk => h.apart i j s r (fun e' => e e'.symm) h1 hr k hk) (fun k hk => (h.run j r q hr hq).ty_not hk)
  · rw [List.getElem?_set] at h1 h2
    by_cases e : j = i
    · subst e
      rw [if_pos rfl, if_pos hjr] at h1
      cases h1
      rw [if_neg hne] at h2
      obtain ⟨z, hz⟩ : ∃ z, R[i']? = some z := ⟨_, List.getElem?_eq_getElem (by rw [← h.len]; exact (List.getElem?_eq_some_iff.1 h2).1)⟩
      rcases ht k hk1 with h3 | h3
      · exact h.apart j i' r s' hne hr h2 k h3 hk2
      · have := (h.run i' s' z h2 hz).T_lt k hk2; omega
    · rw [if_neg e] at h1
      obtain ⟨z, hz⟩ : ∃ z, R[i]? = some z := ⟨_, List.getElem?_eq_getElem (by rw [← h.len]; exact (List.getElem?_eq_some_iff.1 h1).1)⟩
      by_cases e' : j = i'
      · subst e'
        rw [if_pos rfl, if_pos hjr] at h2
        cases h2
        rcases ht k hk2 with h3 | h3
        · exact h.apart j i r s (fun e0 => e e0) hr h1 k h3 hk1
        · have := (h.run i s z h1 hz).T_lt k hk1; omega
      · rw [if_neg e'] at h2
        exact h.apart i i' s s' hne h1 h2 k hk1 hk2
theorem rl_add {B : Nat} {P : Nat → Prop} {w : World} {rs : List Rm} {R : List (List Sp)} {r : Rm} {q : List Sp} (h : Rl B P w rs R) (hn : RN.Rk B P w r.b r.sv r.pv q) (ht : ∀ s ∈ rs, ∀ k, s.T k → ¬ r.T k) : Rl B P w (rs ++ [r]) (R ++ [q]) := by
  refine ⟨by simp [h.len], fun i s z h1 h2 => ?_, fun i i' s s' hne h1 h2 k hk1 hk2 => ?_⟩
  · by_cases hlt : i < rs.length
    · rw [List.getElem?_append_left hlt] at h1
      rw [List.getElem?_append_left (by rw [← h.len]; exact hlt)] at h2
      exact h.run i s z h1 h2
    · have hi : i = rs.length := by have := (List.getElem?_eq_some_iff.1 h1).1; simp at this; omega
      subst hi
      rw [List.getElem?_append_right (Nat.le_refl _)] at h1
      rw [h.len, List.getElem?_append_right (Nat.le_refl _)] at h2
      simp at h1 h2
      subst h1 h2
      exact hn
  · have hc : ∀ {i : Nat} {s : Rm}, (rs ++ [r])[i]? = some s → (i < rs.length ∧ rs[i]? = some s) ∨ (i = rs.length ∧ s = r) := by
      intro i s h1
      by_cases hlt : i < rs.length
      · rw [List.getElem?_append_left hlt] at h1; exact .inl ⟨hlt, h1⟩
      · have hi : i = rs.length := by have := (List.getElem?_eq_some_iff.1 h1).1; simp at this; omega
        subst hi
        rw [List.getElem?_append_right (Nat.le_refl _)] at h1
        simp at h1
        exact .inr ⟨rfl, h1.symm⟩
    rcases hc h1 with ⟨_, g1⟩ | ⟨e1, rfl⟩ <;> rcases hc h2 with ⟨_, g2⟩ | ⟨e2, rfl⟩
    · exact h.apart i i' s s' hne g1 g2 k hk1 hk2
    · exact ht s (List.mem_of_getElem? g1) k hk1 hk2
    · exact ht s' (List.mem_of_getElem? g2) k hk2 hk1
    · exact hne (by omega)
end Go.Proofs.YtlbjbkhcnafhcaaGreat
namespace Go.Proofs.YtlbjbkhcnafhcaaGreat
open Go.RowKit Go.Sort Go.Shelf Go.Maps

abbrev BW (bx : Nat) (n k t v : Value) (b : Nat) (c0 c1 c2 c6 : Value) (w : World) : Prop := (w.cell? ⟨bx, 0, none⟩ = some n ∧ w.cell? ⟨bx, 1, none⟩ = some k ∧ w.cell? ⟨bx, 2, none⟩ = some t ∧ w.cell? ⟨bx, 3, none⟩ = some v) ∧ w.cell? ⟨b, 0, none⟩ = some c0 ∧ w.cell? ⟨b, 1, none⟩ = some c1 ∧ w.cell? ⟨b, 2, none⟩ = some c2 ∧ w.cell? ⟨b, 6, none⟩ = some c6
theorem bwD {w : World} {bx b : Nat} {n k t v c0 c1 c2 c6 : Value} (h : BW bx n k t v b c0 c1 c2 c6 w) : BW bx n k t v b c0 c1 c2 c6 w.drew := h
theorem bwOf {w : World} {bx b : Nat} {n k t v : Value} {room : Int} {N : Nat} {x : Lx} {B : Nat} {P : Nat → Prop} {sv : Value} {m : Nat} {l : List Sm} (h1 : w.heap[bx]? = some (.cells #[n, k, t, v] 34)) (h2 : SN.Dk (fxL room N x) B P w b room sv m l) : BW bx n k t v b x.sc (.int .i64 room) (.int .i64 (N : Int)) (.map (some x.sm)) w :=
  ⟨⟨block_cell h1 0, block_cell h1 1, block_cell h1 2, block_cell h1 3⟩, block_cell h2.blk 0, block_cell h2.blk 1, block_cell h2.blk 2, block_cell h2.blk 6⟩
theorem bwOn {w w' : World} {bx b : Nat} {n k t v c0 c1 c2 c6 : Value} (h : BW bx n k t v b c0 c1 c2 c6 w) (hb : Below w.heap.size w w') : BW bx n k t v b c0 c1 c2 c6 w' := ⟨⟨SN.cell_onB h.1.1 hb, SN.cell_onB h.1.2.1 hb, SN.cell_onB h.1.2.2.1 hb, SN.cell_onB h.1.2.2.2 hb⟩, SN.cell_onB h.2.1 hb, SN.cell_onB h.2.2.1 hb, SN.cell_onB h.2.2.2.1 hb, SN.cell_onB h.2.2.2.2 hb⟩
theorem bwA {w : World} {bx b : Nat} {n k t v c0 c1 c2 c6 : Value} (h : BW bx n k t v b c0 c1 c2 c6 w) (o : Obj) : BW bx n k t v b c0 c1 c2 c6 (w.alloc o) := bwOn h ((Below.refl _ _).alloc (Nat.le_refl _) o)
theorem enters26 : ∀ args w, (callFunc 26 args).run Tryz.prog w = .ok (.enter 26 args) w := enters_of Tryz.func26 (by kernel_rfl) rfl
theorem enters28 : ∀ args w, (callFunc 28 args).run Tryz.prog w = .ok (.enter 28 args) w := enters_of Tryz.func28 (by kernel_rfl) rfl
theorem enters29 : ∀ args w, (callFunc 29 args).run Tryz.prog w = .ok (.enter 29 args) w := enters_of Tryz.func29 (by kernel_rfl) rfl
theorem enters30 : ∀ args w, (callFunc 30 args).run Tryz.prog w = .ok (.enter 30 args) w := enters_of Tryz.func30 (by kernel_rfl) rfl
theorem sfits_is {v u : Value} {l : List Sc} {p : Pt} {w : World} {z : Int} (hv : SchsAt w v l) (hp : PtAt w u p) (h : fitsS l p = z) : Calls Tryz.prog 26 #[v, u] w fun e w' => e = .returned (.int .i64 z) ∧ Below w.heap.size w w' := by rw [← h]; exact sfits_any hv hp
theorem has_is {B : Nat} {P : Nat → Prop} {w : World} {b : Nat} {S : List Sc} {room : Int} {x : Lx} {pts : List Pt} {u : Value} {p : Pt} {z : Bool} (h : Lf B P w b S room x pts) (hp : PtAt w u p) (hn : pts.length ≤ 254) (hk : List.length p.ks ≤ 2000000) (hs : p.sc.size ≤ 2000000) (hr : ∀ v ∈ p.ks, SN.Rng v) (hz : hasP pts p = z) :
    Calls Tryz.prog 27 #[dp b, u] w fun e w' => e = .returned (.bool z) ∧ Below w.heap.size w w' := by rw [← hz]; exact has_any h hp hn hk hs hr
theorem Lf.len {B : Nat} {P : Nat → Prop} {w : World} {b : Nat} {S : List Sc} {room : Int} {x : Lx} {pts : List Pt} (h : Lf B P w b S room x pts) : ∃ sv m l, SN.Dk (fxL room pts.length x) B P w b room sv m l := let ⟨l, _, h1, _⟩ := h.lk; ⟨_, _, l, h1.dk⟩
theorem sc_slice {B : Nat} {P : Nat → Prop} {w : World} {b : Nat} {S : List Sc} {room : Int} {x : Lx} {pts : List Pt} (h : Lf B P w b S room x pts) : ∃ p c, x.sc = .slice p S.length c ∧ SchsAt w x.sc S := by
  obtain ⟨l, R, h1, _⟩ := h.lk
  have h2 := h1.sch.at
  have h3 := h2
  obtain ⟨hs, ⟨p, c, hv, _⟩, hh⟩ := h2
  exact ⟨p, c, by rw [hv, hh.1], h3⟩
/- Write, where nothing is written. -/
set_option maxRecDepth 100000 in
set_option maxHeartbeats 2000000 in
theorem write_notF {F : World → Prop} {B : Nat} {P : Nat → Prop} {w : World} {b : Nat} {S : List Sc} {room : Int} {x : Lx} {pts : List Pt} {u : Value} {p : Pt} (h : Lf B P w b S room x pts) (hp : PtAt w u p) (hc : checkS S = 0) (hn : pts.length ≤ 254) (hr : ∀ v ∈ p.ks, SN.Rng v) (hno : wrN S room pts p = false) (hfin : ∀ w', Ov w w' → F w') :
    Calls Tryz.prog 11 #[dp b, u] w fun e w' => e = .returned (.tuple #[.bool (wrN S room pts p), .int .i64 (wrE S room pts p)]) ∧ F w' := by
  obtain ⟨pk, ck, pv, cv, rfl, hrk, hrv⟩ := pt_form hp
  have HF := hid hfin
  have HN := hid hn
  have HRg := hid hr
  have HNo := hid hno
  obtain ⟨ps, cs, hsc, hsch⟩ := sc_slice h
  have hB0 := (Below.refl w.heap.size w).alloc (Nat.le_refl _) (.cells #[.string p.sc, .slice pk (List.length p.ks) ck, .int .i64 p.tm, .slice pv (List.length p.vs) cv] 34)
  have HB0 := hid hB0
  have KB0 := alloc_block w (.cells #[.string p.sc, .slice pk (List.length p.ks) ck, .int .i64 p.tm, .slice pv (List.length p.vs) cv] 34)
  have HL0 := hid (h.on hB0)
  obtain ⟨sv0, m0, l0, hdk⟩ := HL0.out.len
  have hS0 := bwOf KB0 hdk
  rw [hsc] at hS0
  have HS := hid hS0
  have HSc : Hid (SchsAt (w.alloc (.cells #[.string p.sc, .slice pk (List.length p.ks) ck, .int .i64 p.tm, .slice pv (List.length p.vs) cv] 34)) (.slice ps S.length cs) S) := by show SchsAt _ _ _; rw [← hsc]; exact hsch.on hB0
  have HPt := hid (hp.on hB0)
  obtain ⟨z, hz⟩ : ∃ z, fitsS S p = z := ⟨_, rfl⟩
  have HZ := hid hz
  have HFF : Hid (z = 0 → List.length p.ks ≤ 2000000 ∧ p.sc.size ≤ 2000000) := fun e => by
    obtain ⟨h1, h2, h3, _⟩ := fit_facts hc (hz.trans e); exact ⟨by omega, by omega⟩
  clear hfin hno hr hn hsc hsch hB0 KB0 hdk hz hc hrk hrv hp h
  generalize hnk : List.length p.ks = nk at *
  generalize List.length p.vs = nv at *
  have HNK := hid hnk
  clear hnk
  go_enter Tryz.func11, Tryz.ntmps11
  go_wp2_with fail
  generalize hBX : w.heap.size = BX at *
  have HBX := hid hBX
  generalize (w.alloc (.cells #[.string p.sc, .slice pk nk ck, .int .i64 p.tm, .slice pv nv cv] 34)) = W at *
  clear hBX
  generalize hNN : pts.length = NN at *
  have HNN := hid hNN
  clear hNN
  go_region_held3 (BW BX (.string p.sc) (.slice pk nk ck) (.int .i64 p.tm) (.slice pv nv cv) b (.slice ps S.length cs) (.int .i64 room) (.int .i64 (NN : Int)) (.map (some x.sm))) (((repeat (first | (with_reducible refine bwD ?_) | (with_reducible refine bwA ?_ _))); (with_reducible assumption)))
    (first
    | (refine step_call2 (v := .slice ps S.length cs) (v2 := .agg #[.string p.sc, .slice pk nk ck, .int .i64 p.tm, .slice pv nv cv]) rfl (.tmp 12) (.tmp 13) 22 34 rfl (by simp [Act.eval]) (by simp [Act.eval]) enters26 ?_; refine (sfits_is (HSc.out.on (Below.refl _ _).drew) (HPt.out.on (Below.refl _ _).drew) HZ.out).mono ?_; rintro e w1 ⟨rfl, hb1⟩; refine ⟨_, rfl, ?_⟩; have HB1 : Hid (Below W.heap.size W w1) := (Below.refl _ _).drew.trans hb1; have hS1 := bwOn HS.out HB1.out; clear hb1 hS0))
  have HL1 := hid (HL0.out.on HB1.out)
  have HPt1 := hid (HPt.out.on HB1.out)
  have HBw : Hid (∀ w', Below w1.heap.size w1 w' → Ov w w') := fun w' hb => by
    show Below w.heap.size w w'
    have e := HBX.out
    have hq := HB0.out.size
    rw [e] at hq ⊢
    exact HB0.out.trans ((HB1.out.trans (hb.mono HB1.out.size)).mono hq)
  have HS1 := hid hS1
  by_cases hz0 : z = 0
  · subst hz0
    obtain ⟨f1, f2⟩ := HFF.out rfl
    obtain ⟨y, hy⟩ : ∃ y, hasP pts p = y := ⟨_, rfl⟩
    have HY := hid hy
    have HF1 := hid f1
    have HF2 := hid f2
    clear f1 f2
    have hcl := HS1.out.1
    obtain ⟨q0, q1, q2, q3⟩ := hcl
    cases y with
    | true =>
      have E1 : Hid (wrN S room pts p = false) := HNo.out
      have E2 : Hid (wrE S room pts p = 0) := by show _ = _; unfold wrE; rw [if_pos HZ.out, hy]; rfl
      clear hy
      go_wp2_with (first
        | (go_at_call 27; refine (has_is (p := p) HL1.out HPt1.out (by rw [HNN.out]; exact HN.out) (by rw [HNK.out]; exact HF1.out) HF2.out HRg.out HY.out).mono ?_; rintro e w2 ⟨rfl, hb2⟩; have HB2 := hid hb2; have hS2 := bwOn HS1.out hb2; clear hb2 hS1 q0 q1 q2 q3))
      exact bodyPost_ret (v := .tuple #[.bool (wrN S room pts p), .int .i64 (wrE S room pts p)]) (by simp [results, Tryz.results11, go_sem, E1.out, E2.out]) rfl ⟨rfl, HF.out _ (HBw.out _ HB2.out)⟩
    | false =>
      have hge : room ≤ (NN : Int) := by
        have := HNo.out
        unfold wrN at this
        rw [decide_eq_true HZ.out, hy, show pts.length = NN from HNN.out] at this
        simpa using this
      have E1 : Hid (wrN S room pts p = false) := HNo.out
      have E2 : Hid (wrE S room pts p = 80) := by show _ = _; unfold wrE; rw [if_pos HZ.out, hy, if_neg (by decide), show pts.length = NN from HNN.out, if_neg (by omega)]
      clear hy
      go_wp2_with (first
        | (go_at_call 27; refine (has_is (p := p) HL1.out HPt1.out (by rw [HNN.out]; exact HN.out) (by rw [HNK.out]; exact HF1.out) HF2.out HRg.out HY.out).mono ?_; rintro e w2 ⟨rfl, hb2⟩; have HB2 := hid hb2; have hS2 := bwOn HS1.out hb2; clear hb2 hS1 q0 q1 q2 q3))
      go_region_held3 (BW BX (.string p.sc) (.slice pk nk ck) (.int .i64 p.tm) (.slice pv nv cv) b (.slice ps S.length cs) (.int .i64 room) (.int .i64 (NN : Int)) (.map (some x.sm))) (((repeat (first | (with_reducible refine bwD ?_) | (with_reducible refine bwA ?_ _))); (with_reducible assumption))) (fail)
      go_wp2_with fail
      exact bodyPost_ret (v := .tuple #[.bool (wrN S room pts p), .int .i64 (wrE S room pts p)]) (by simp [results, Tryz.results11, go_sem, E1.out, E2.out]) rfl ⟨rfl, HF.out _ (HBw.out _ HB2.out.drew)⟩
  · have E1 : Hid (wrN S room pts p = false) := HNo.out
    have E2 : Hid (wrE S room pts p = z) := by show _ = _; unfold wrE; rw [if_neg (by rw [HZ.out]; exact hz0)]; exact HZ.out
    go_wp2_with fail
    exact bodyPost_ret (v := .tuple #[.bool (wrN S room pts p), .int .i64 (wrE S room pts p)]) (by simp [results, Tryz.results11, go_sem, E1.out, E2.out]) rfl ⟨rfl, HF.out _ (HBw.out _ (Below.refl _ _))⟩
theorem write_not {B : Nat} {P : Nat → Prop} {w : World} {b : Nat} {S : List Sc} {room : Int} {x : Lx} {pts : List Pt} {u : Value} {p : Pt} (h : Lf B P w b S room x pts) (hp : PtAt w u p) (hc : checkS S = 0) (hn : pts.length ≤ 254) (hr : ∀ v ∈ p.ks, SN.Rng v) (hno : wrN S room pts p = false) :
    Calls Tryz.prog 11 #[dp b, u] w (WrP B P w b S room x pts p) := by
  have EL : wrL S room pts p = pts := by unfold wrL; rw [hno]; rfl
  exact write_notF (F := fun w' => Wr3 B P w b S room x (wrL S room pts p) w') h hp hc hn hr hno fun w' hb => ⟨x, by rw [EL]; exact h.on hb, Kp.of hb, fun k hk => .inl hk⟩
end Go.Proofs.YtlbjbkhcnafhcaaGreat
