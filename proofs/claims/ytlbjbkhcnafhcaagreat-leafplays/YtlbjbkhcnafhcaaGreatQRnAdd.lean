/-
  What Add of package runs returns, and what it leaves.
-/
import Derived.Test.YtlbjbkhcnafhcaaGreatP12XOf
import Derived.Test.YtlbjbkhcnafhcaaGreatQRnIns2
namespace Go.Proofs.YtlbjbkhcnafhcaaGreat.RN
open Go.RowKit Go.Sort Go.Shelf

set_option maxRecDepth 100000 in
set_option maxHeartbeats 400000 in
theorem new_any {P : Nat → Prop} {w : World} : Calls Tryz.prog 29 #[] w fun e w' => ∃ b, e = .returned (dp b) ∧ Rk w.heap.size P w' b (.slice none 0 0) (.slice none 0 0) [] ∧ Below w.heap.size w w' := by
  go_enter Tryz.func29, Tryz.ntmps29
  go_wp2
  go_ret
  exact ⟨w.heap.size, rfl, ⟨Nat.le_refl _, alloc_block _ _, up_nil, .inl ⟨rfl, rfl, rfl⟩, ⟨[], Own.nil _ _ _ _ _, HeadsS.nil _ _⟩⟩, (Below.refl _ _).alloc (Nat.le_refl _) _⟩
set_option maxHeartbeats 400000 in
theorem cloneK_any {P : Nat → Prop} {u : Value} {r : Rw} {w : World} (hu : RowAt w u r) (hP : ∀ k, w.heap.size ≤ k → P k) :
    Calls Tryz.prog 54 #[u] w fun e w' => ∃ p c, e = .returned (.slice p (List.length r) c) ∧ RowIn (ty36 P w') w' (.slice p (List.length r) c) r ∧ Below w.heap.size w w' := by
  have HU := hid hu
  obtain ⟨p, cap, rfl, hcap, hmax, hx⟩ := hu
  clear hcap hmax hx
  have q22 : ∀ (w : World) (a : Option Addr) (n c n' c' : Nat), (binOp .eql 32 (.slice a n c) (.slice none n' c')).run Tryz.prog w = .ok (.bool a.isNone) w := fun w a n c n' c' => Lib.run_eql_slice_nil w _ _ a n c n' c' Tryz.underlying32
  generalize hn : List.length r = n at *
  have HN := hid hn
  clear hn
  cases p with
  | none =>
    have hn := SlAt.empty HU.out
    subst hn
    obtain rfl : n = 0 := HN.out.symm
    go_enter Tryz.func54, Tryz.ntmps54
    go_wp2
    go_ret
    exact ⟨none, 0, rfl, SlAt.nil _ _ _ _, Below.refl _ _⟩
  | some ad =>
    go_enter Tryz.func54, Tryz.ntmps54
    go_wp2_with (at_builtin; refine app_any elem48 vl_len (fun x _ => vl_cells x) rfl _ _ rfl rfl (Own.made Vl.cells 11 40 w.heap.size w (Nat.le_refl _)) rfl (SlAt.on HU.out ((Below.refl _ _).alloc (Nat.le_refl _) _)) (by simpa using SlAt.bound HU.out) (by simp) ?_; intro v' w1 hown hb1)
    go_ret
    rw [List.nil_append] at hown
    have hr := own_rowT (P := P) hown hP (SlAt.bound HU.out)
    obtain ⟨p, c, rfl⟩ := own_formN hown HN.out
    exact ⟨p, c, rfl, hr, ((Below.refl _ _).alloc (Nat.le_refl _) _).trans hb1⟩
theorem enters22 : ∀ args w, (callFunc 54 args).run Tryz.prog w = .ok (.enter 54 args) w := enters_of Tryz.func54 (by kernel_rfl) rfl
theorem enters23 : ∀ args w, (callFunc 56 args).run Tryz.prog w = .ok (.enter 56 args) w := enters_of Tryz.func56 (by kernel_rfl) rfl
/- A run that is about to have a sample more: its one piece is there, be it empty. -/
structure Md (B : Nat) (P : Nat → Prop) (w : World) (b g c : Nat) (pv : Value) (l : List Sp) : Prop where
  bB : B ≤ b
  gB : B ≤ g
  blk : w.heap[b]? = some (.cells #[.slice (some ⟨g, 0, none⟩) 1 c] 101)
  hc : 1 ≤ c
  up : Up l
  gblk : ∃ arr, w.heap[g]? = some (.cells arr 102) ∧ arr[0]? = some pv
  row : ∃ hs, Own Sh.cells 2 105 B w pv hs ∧ HeadsS P w hs l
theorem Md.kp {B : Nat} {P T : Nat → Prop} {w w' : World} {b g c : Nat} {pv : Value} {l : List Sp} (h : Md B P w b g c pv l) (hk : Kp T w w') (h1 : ¬ T b) (h2 : ¬ T g) (h3 : ∀ k, pv.ownBlock = some k → ¬ T k) (ht : ∀ k, ty36 P w k → ¬ T k) : Md B P w' b g c pv l := by
  obtain ⟨hs, ho, hh⟩ := h.row
  obtain ⟨arr, h4, h5⟩ := h.gblk
  exact ⟨h.bB, h.gB, hk.blk h.blk h1, h.hc, h.up, ⟨arr, hk.blk h4 h2, h5⟩, ⟨hs, own_kp ho hk h3, hh.kp hk ht⟩⟩
theorem Md.on {B : Nat} {P : Nat → Prop} {w w' : World} {b g c : Nat} {pv : Value} {l : List Sp} (h : Md B P w b g c pv l) (hb : Below w.heap.size w w') : Md B P w' b g c pv l :=
  h.kp (T := fun _ => False) (Kp.of hb) id id (fun _ _ => id) (fun _ _ => id)
theorem Md.k1 {B : Nat} {P : Nat → Prop} {w : World} {b g c : Nat} {pv : Value} {l : List Sp} (h : Md B P w b g c pv l) : w.cell? ⟨b, 0, none⟩ = some (.slice (some ⟨g, 0, none⟩) 1 c) := by rw [block_cell h.blk]; rfl
theorem Md.k2 {B : Nat} {P : Nat → Prop} {w : World} {b g c : Nat} {pv : Value} {l : List Sp} (h : Md B P w b g c pv l) : w.cell? ⟨g, 0, none⟩ = some pv := by
  obtain ⟨arr, h4, h5⟩ := h.gblk
  rw [block_cell h4]; exact h5
theorem Md.f2 {B : Nat} {P : Nat → Prop} {w : World} {b g c : Nat} {pv : Value} {l : List Sp} (h : Md B P w b g c pv l) : w.frozen? ⟨g, 0, none⟩ = false := by
  obtain ⟨arr, h4, h5⟩ := h.gblk
  exact block_frozen h4 0
theorem Md.ne {B : Nat} {P : Nat → Prop} {w : World} {b g c : Nat} {pv : Value} {l : List Sp} (h : Md B P w b g c pv l) : g ≠ b ∧ pv.ownBlock ≠ some b ∧ pv.ownBlock ≠ some g ∧ ∀ k, ty36 P w k → pv.ownBlock ≠ some k ∧ k ≠ g := by
  obtain ⟨hs, ho, hh⟩ := h.row
  obtain ⟨arr, h4, h5⟩ := h.gblk
  refine ⟨fun e => ?_, fun e => ?_, fun e => ?_, fun k hk => ⟨fun e => ?_, fun e => ?_⟩⟩
  · subst e; rw [h.blk] at h4; cases h4
  · obtain ⟨x, f, hc⟩ := own_kind ho e
    rw [h.blk] at hc; cases hc
  · obtain ⟨x, f, hc⟩ := own_kind ho e
    rw [h4] at hc; cases hc
  · obtain ⟨-, y, z, hy⟩ := hk
    obtain ⟨x, f, hc⟩ := own_kind ho e
    rw [hy] at hc; cases hc
  · obtain ⟨-, y, z, hy⟩ := hk
    subst e; rw [h4] at hy; cases hy
theorem Md.T_not {B : Nat} {P : Nat → Prop} {w : World} {b g c : Nat} {pv : Value} {l : List Sp} (h : Md B P w b g c pv l) : ∀ k, ty36 P w k → ¬ (k = g ∨ pv.ownBlock = some k) := fun k hk => by
  obtain ⟨-, -, -, h4⟩ := h.ne
  rintro (e | e)
  · exact (h4 k hk).2 e
  · exact (h4 k hk).1 e
theorem rk_md {B : Nat} {P : Nat → Prop} {w : World} {b g c : Nat} {pv : Value} {l : List Sp} (h : Rk B P w b (.slice (some ⟨g, 0, none⟩) 1 c) pv l) : Md B P w b g c pv l := by
  rcases h.pc with ⟨-, h0, -⟩ | ⟨-, g', c', arr, h0, h1, h2, h3, h4⟩
  · cases h0
  · cases h0
    exact ⟨h.bB, h2, h.blk, h1, h.up, ⟨arr, h3, h4⟩, h.row⟩
/- What is left when the sample is in. -/
theorem md_add {B : Nat} {P : Nat → Prop} {w w4 w5 : World} {b g c : Nat} {pv pv' v2 : Value} {l : List Sp} {s : Sp} {hs : List Sh} (hM : Md B P w b g c pv l) (hh : HeadsS P w hs l) (hb : Below w.heap.size w w4) (hr : RowIn (ty36 P w4) w4 v2 s.vs) (hfree : hasT l s.t = false)
    (ho : Own Sh.cells 2 105 B w5 pv' (hs.take (posT s.t l) ++ ⟨s.t, v2⟩ :: hs.drop (posT s.t l))) (hk : Kp (fun k => pv.ownBlock = some k) w4 w5) (hat : At w4 pv pv') :
    Rk B P (w5.setCell ⟨g, 0, none⟩ pv') b (.slice (some ⟨g, 0, none⟩) 1 c) pv' (insS l s) ∧ Kp (fun k => k = g ∨ pv.ownBlock = some k) w (w5.setCell ⟨g, 0, none⟩ pv') ∧ ∀ k, Tr b (.slice (some ⟨g, 0, none⟩) 1 c) pv' k → k = b ∨ k = g ∨ pv.ownBlock = some k ∨ w.heap.size ≤ k := by
  have hM4 := hM.on hb
  obtain ⟨n1, n2, n3, n4⟩ := hM4.ne
  obtain ⟨arr, h4, h5⟩ := hM4.gblk
  have g5 := hk.blk h4 n3
  have hk5 : Kp (fun k => k = g ∨ pv.ownBlock = some k) w4 w5 := ⟨hk.os, hk.tape, hk.output, hk.size, fun k h1 h2 => hk.block k h1 (fun e => h2 (.inr e))⟩
  have hk6 : Kp (fun k => k = g ∨ pv.ownBlock = some k) w5 (w5.setCell ⟨g, 0, none⟩ pv') := Kp.set (.inl rfl) _
  have hk46 := hk5.trans hk6
  have hh4 := hh.on hb
  have hT := hM4.T_not
  refine ⟨⟨hM.bB, ?_, insS_up hM.up hfree, .inr ⟨?_, g, c, _, rfl, hM.hc, hM.gB, set_block g5 pv', ?_⟩, ⟨_, own_kp ho (T := fun k => k = g) (Kp.set (T := fun k => k = g) rfl _) (fun k e1 e2 => ?_), ?_⟩⟩, (Kp.of hb).trans hk46, ?_⟩
  · refine hk46.blk hM4.blk ?_
    rintro (e | e)
    · exact n1 e.symm
    · exact n2 e
  · intro e
    have := insS_len l s
    rw [e] at this; simp at this
  · have h0 : 0 < arr.size := (Array.getElem?_eq_some_iff.1 h5).1
    rw [Array.getElem?_setIfInBounds]; simp [h0]
  · subst e2
    obtain ⟨x, f, hc⟩ := own_kind ho e1
    rw [g5] at hc; cases hc
  · have hh6 := hh4.kp hk46 hT
    have hr6 := row_kp hr hk46 hT
    exact (hh6.take _).app ((HeadsS.one (h := ⟨s.t, v2⟩) (s := s) rfl hr6).app (hh6.drop _))
  · rintro k (rfl | e | e)
    · exact .inl rfl
    · cases e; exact .inr (.inl rfl)
    · rcases hat k e with e | e
      · exact .inr (.inr (.inl e))
      · exact .inr (.inr (.inr (Nat.le_trans hb.size e)))
def AddP (B : Nat) (P : Nat → Prop) (w : World) (b : Nat) (sv pv : Value) (l : List Sp) (s : Sp) (e : Ending) (w' : World) : Prop :=
  e = .returned (.bool (!hasT l s.t)) ∧ ∃ sv' pv', Rk B P w' b sv' pv' (addS l s) ∧ Kp (Tr b sv pv) w w' ∧ ∀ k, Tr b sv' pv' k → Tr b sv pv k ∨ w.heap.size ≤ k
set_option maxRecDepth 100000 in
set_option maxHeartbeats 2000000 in
theorem add_old {B : Nat} {P : Nat → Prop} {w : World} {b : Nat} {sv pv v : Value} {l : List Sp} {s : Sp} (h : Rk B P w b sv pv l) (hlen : l.length ≤ 255) (hc : hasT l s.t = true) :
    Calls Tryz.prog 30 #[dp b, .int .i64 s.t, v] w (AddP B P w b sv pv l s) := by
  have HK := hid h
  have HLen := hid hlen
  have HC := hid hc
  clear h hlen hc
  go_enter Tryz.func30, Tryz.ntmps30
  go_wp2_with (go_at_call 55; refine (find_any HK.out (by have := HLen.out; omega)).mono ?_; rintro e w1 ⟨rfl, hb1⟩; rw [HC.out]; have HB1 := hid hb1; clear hb1)
  go_ret
  exact ⟨by rw [HC.out]; rfl, sv, pv, by rw [addS_old HC.out]; exact HK.out.on HB1.out, Kp.of HB1.out, fun k hk => .inl hk⟩
set_option maxRecDepth 100000 in
set_option maxHeartbeats 4000000 in
theorem add_more {B : Nat} {P : Nat → Prop} {w : World} {b g c : Nat} {pv v : Value} {l : List Sp} {s : Sp} (h : Rk B P w b (.slice (some ⟨g, 0, none⟩) 1 c) pv l) (hlen : l.length ≤ 255) (hc : hasT l s.t = false) (hv : RowAt w v s.vs) (hP : ∀ k, w.heap.size ≤ k → P k) (hB : B ≤ w.heap.size) :
    Calls Tryz.prog 30 #[dp b, .int .i64 s.t, v] w (AddP B P w b (.slice (some ⟨g, 0, none⟩) 1 c) pv l s) := by
  have HK := hid h
  have HLen := hid hlen
  have HC := hid hc
  have HV := hid hv
  have HP := hid hP
  have HMd := hid (rk_md h)
  have hc1 := HMd.out.hc
  obtain ⟨hs, ho, hh⟩ := h.row
  have HO := hid ho
  have HH := hid hh
  have HPl := hid (posT_le s.t l)
  obtain ⟨p2, c2, rfl, hpc, hpm, -, -⟩ := own_form1 ho hh.1
  obtain ⟨p0, c0, rfl, -⟩ := hv
  clear h hc hP ho hh
  generalize hns : List.length s.vs = ns at *
  generalize hn : l.length = n at *
  have HNS := hid hns
  have HN := hid hn
  clear hns hn
  go_enter Tryz.func30, Tryz.ntmps30
  go_wp2_with (first
    | (go_at_call 55; refine (find_any HK.out (by have := HLen.out; have := HN.out; omega)).mono ?_; rintro e w1 ⟨rfl, hb1⟩; rw [HC.out]; have HB1 := hid hb1; have k1 := (HMd.out.on hb1).k1; clear hb1)
    | (go_at_call 54; refine (cloneK_any (P := P) (HV.out.on HB1.out) (fun k hk => HP.out k (Nat.le_trans HB1.out.size hk))).mono ?_; rintro e w2 ⟨p3, c3, rfl, hr2, hb2⟩; have HR2 := hid hr2; have HB2 := hid (HB1.out.trans (hb2.mono HB1.out.size)); clear hb2 hr2 k1))
  have HS3 := hid (alloc_block w2 (.cells #[.int .i64 s.t, .slice p3 (List.length s.vs) c3] 105))
  have HB3 := hid (HB2.out.alloc HB2.out.size (.cells #[.int .i64 s.t, .slice p3 (List.length s.vs) c3] 105))
  have HR3 := hid (row_kp (T := fun _ => False) HR2.out (Kp.of ((Below.refl _ _).alloc (Nat.le_refl _) (.cells #[.int .i64 s.t, .slice p3 (List.length s.vs) c3] 105))) (fun _ _ => id))
  clear HR2 HB2
  generalize (w2.alloc (.cells #[.int .i64 s.t, .slice p3 (List.length s.vs) c3] 105)) = W3 at *
  generalize w2.heap.size = bs at *
  generalize List.length s.vs = ns2 at *
  have HM3 := hid (HMd.out.on HB3.out)
  have HB3d : Hid (Below w.heap.size w W3.drew) := HB3.out.drew
  have k1 : W3.drew.cell? ⟨b, 0, none⟩ = _ := HM3.out.k1
  have k2 : W3.drew.cell? ⟨g, 0, none⟩ = _ := HM3.out.k2
  have k3 : W3.drew.cell? ⟨bs, 0, none⟩ = some (.int .i64 s.t) := by show W3.cell? _ = _; rw [block_cell HS3.out]; rfl
  have k4 : W3.drew.cell? ⟨bs, 1, none⟩ = some (.slice p3 ns2 c3) := by show W3.cell? _ = _; rw [block_cell HS3.out]; rfl
  have k1a : ∀ (A : Obj), (W3.alloc A).cell? ⟨b, 0, none⟩ = some (.slice (some ⟨g, 0, none⟩) 1 c) := fun A => (HM3.out.on ((Below.refl _ _).alloc (Nat.le_refl _) A)).k1
  have k2a : ∀ (A : Obj), (W3.alloc A).cell? ⟨g, 0, none⟩ = some (.slice p2 n c2) := fun A => (HM3.out.on ((Below.refl _ _).alloc (Nat.le_refl _) A)).k2
  have HOa : Hid (∀ A, Own Sh.cells 2 105 B ((W3.alloc A).drew) (.slice p2 n c2) hs) := fun A => own_kp (T := fun _ => False) HO.out (Kp.of (HB3.out.alloc HB3.out.size A).drew) (fun _ _ => id)
  have HVa : Hid (((W3.alloc (.cells #[.int .i64 s.t, .slice p3 ns2 c3] 105)).drew).heap[W3.heap.size]? = some (.cells #[.int .i64 s.t, .slice p3 ns2 c3] 105)) := alloc_block W3 _
  have HNe : Hid ((Value.slice p2 n c2).ownBlock ≠ some W3.heap.size) := fun e => by have := (own_at HO.out e).2; have := HB3.out.size; omega
  have HLn : Hid (∀ x : Sh, (hs.take (posT s.t l) ++ x :: hs.drop (posT s.t l)).length = n + 1) := fun x => by
    have h1 := HH.out.1.trans HN.out
    have h2 := HPl.out
    simp [h1]; omega
  have HGb : Hid (∀ (A : Obj) (w5 : World), Kp (fun k => (Value.slice p2 n c2).ownBlock = some k) ((W3.alloc A).drew) w5 → w5.cell? ⟨g, 0, none⟩ = some (.slice p2 n c2) ∧ w5.frozen? ⟨g, 0, none⟩ = false ∧ w5.cell? ⟨b, 0, none⟩ = some (.slice (some ⟨g, 0, none⟩) 1 c)) := fun A w5 hk => by
    have hm := HM3.out.on ((Below.refl _ _).alloc (Nat.le_refl _) A).drew
    obtain ⟨arr, h4, h5⟩ := hm.gblk
    have h6 := hk.blk h4 hm.ne.2.2.1
    exact ⟨by rw [block_cell h6]; exact h5, block_frozen h6 0, by rw [block_cell (hk.blk hm.blk hm.ne.2.1)]; rfl⟩
  go_region_law (first
    | (refine step_call3 (v := .slice p2 n c2) (v2 := .int .i64 (posT s.t l : Nat)) (v3 := .slice (some ⟨W3.heap.size, 0, none⟩) 1 1) rfl (.tmp 44) (.tmp 45) (.tmp 47) 102 3 102 rfl (by simp [Act.eval]) (by simp [Act.eval]) (by simp [Act.eval]) enters23 ?_; refine (insert_any (s := ⟨s.t, .slice p3 ns2 c3⟩) (HOa.out _) (show n ≤ 1000 by have := HLen.out; omega) (HH.out.1.trans HN.out) HPl.out HNe.out (by have := HB3.out.size; simp; omega) HVa.out rfl (heads_one HH.out)).mono ?_; rintro e w5 ⟨pv5, rfl, ho5, hk5, hat5⟩; refine ⟨_, rfl, ?_⟩; obtain ⟨p5, c5, rfl⟩ := own_formN (n := n + 1) ho5 (HLn.out _); have HO5 := hid ho5; have HK5 := hid hk5; have HAt5 := hid hat5; have HG5 := hid (HGb.out _ _ hk5); have k5 := HG5.out.1; have f5 := HG5.out.2.1; have q5 := HG5.out.2.2; clear ho5 hk5 hat5))
  all_goals
    have HBa := hid (HB3.out.alloc HB3.out.size (.cells #[.int .i64 s.t, .slice p3 ns2 c3] 105)).drew
    have HRa : Hid (RowIn (ty36 P (W3.alloc (.cells #[.int .i64 s.t, .slice p3 ns2 c3] 105)).drew) (W3.alloc (.cells #[.int .i64 s.t, .slice p3 ns2 c3] 105)).drew (.slice p3 ns2 c3) s.vs) := row_kp (T := fun _ => False) HR3.out (Kp.of ((Below.refl _ _).alloc (Nat.le_refl _) _).drew) (fun _ _ => id)
    obtain ⟨hf1, hf2, hf3⟩ := md_add HMd.out HH.out HBa.out HRa.out HC.out HO5.out HK5.out HAt5.out
    have HF1 := hid hf1
    have HF2 := hid hf2
    have HF3 := hid hf3
    have z1 := (rk_md hf1).k1
    have z2 := (rk_md hf1).k2
    clear hf1 hf2 hf3 k5 f5 q5 k1 k2 k3 k4 k1a k2a
    go_wp2
    go_ret
    exact ⟨by rw [HC.out]; rfl, _, _, by rw [addS_new HC.out]; exact HF1.out, ⟨HF2.out.os, HF2.out.tape, HF2.out.output, HF2.out.size, fun k h1 h2 => HF2.out.block k h1 (fun e => h2 (by rcases e with e | e; exact .inr (.inl (by rw [e]; rfl)); exact .inr (.inr e)))⟩, fun k hk => by rcases HF3.out k hk with e | e | e | e; exact .inl (.inl e); exact .inl (.inr (.inl (by rw [e]; rfl))); exact .inl (.inr (.inr e)); exact .inr e⟩
end Go.Proofs.YtlbjbkhcnafhcaaGreat.RN
