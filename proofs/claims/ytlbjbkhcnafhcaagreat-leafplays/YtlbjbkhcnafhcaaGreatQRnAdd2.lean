/-
  What Add of package runs returns, and what it leaves.
-/
import Derived.Test.YtlbjbkhcnafhcaaGreatQRnAdd
namespace Go.Proofs.YtlbjbkhcnafhcaaGreat.RN
open Go.RowKit Go.Sort Go.Shelf

theorem row_off {w w' : World} {b : Nat} {v x : Value} {r : Rw} {t : TypeId} {p : Option Addr} {n c : Nat} (h : RowAt w v r) (hx : x = .slice p n c) (hb : w.heap[b]? = some (.cells #[x] t)) (hk : Kp (fun k => k = b) w w') : RowAt w' v r := by
  obtain ⟨q, cap, hv, hc, hm, hy⟩ := h
  refine ⟨q, cap, hv, hc, hm, fun hn => ?_⟩
  obtain ⟨bb, o, hp, hQ, hj⟩ := hy hn
  refine ⟨bb, o, hp, hQ, fun j y hjy i u hu => ?_⟩
  have h1 := hj j y hjy i u hu
  have hne : bb ≠ b := by
    intro e
    subst e
    have h0 := hj j y hjy 0 _ rfl
    rw [block_cell hb] at h0
    have hlt := (Array.getElem?_eq_some_iff.1 h0).1
    simp at hlt
    simp [hlt, hx] at h0
  exact (World.cell?_of_block (a := ⟨bb, o + j * 11 + i, none⟩) (hk.block bb (block_lt_of_cell h1) hne)).trans h1
set_option maxRecDepth 100000 in
set_option maxHeartbeats 4000000 in
theorem add_first {B : Nat} {P : Nat → Prop} {w : World} {b : Nat} {v : Value} {s : Sp} (h : Rk B P w b (.slice none 0 0) (.slice none 0 0) []) (hv : RowAt w v s.vs) (hP : ∀ k, w.heap.size ≤ k → P k) (hB : B ≤ w.heap.size) :
    Calls Tryz.prog 30 #[dp b, .int .i64 s.t, v] w (AddP B P w b (.slice none 0 0) (.slice none 0 0) [] s) := by
  have HK := hid h
  have HV := hid hv
  have HP := hid hP
  obtain ⟨p0, c0, rfl, -⟩ := hv
  have HC : Hid (hasT [] s.t = false) := rfl
  clear hP
  have f0 := block_frozen h.blk 0
  have hbl := lt_of_block h.blk
  clear h
  go_enter Tryz.func30, Tryz.ntmps30
  go_upto_region 5 with (go_at_call 55; refine (find_any HK.out (by simp)).mono ?_; rintro e w1 ⟨rfl, hb1⟩; rw [HC.out]; have HB1 := hid hb1; have k1 := (rk_none (HK.out.on hb1)).2.2; clear hb1)
  have HK1 := hid (HK.out.on HB1.out)
  have k1a : ∀ (A : Obj), (w1.alloc A).cell? ⟨b, 0, none⟩ = some (.slice none 0 0) := fun A => (rk_none (HK1.out.on ((Below.refl _ _).alloc (Nat.le_refl _) A))).2.2
  have f1a : ∀ (A : Obj), (w1.alloc A).frozen? ⟨b, 0, none⟩ = false := fun A => block_frozen (HK1.out.on ((Below.refl _ _).alloc (Nat.le_refl _) A)).blk 0
  go_upto_region 6 with fail
  obtain ⟨wm, hwm⟩ : ∃ W, W = (w1.alloc (.cells #[.slice none 0 0] 102)).setCell ⟨b, 0, none⟩ (.slice (some ⟨w1.heap.size, 0, none⟩) 1 1) := ⟨_, rfl⟩
  have hKa := HK1.out.on ((Below.refl _ _).alloc (Nat.le_refl _) (.cells #[.slice none 0 0] 102))
  have hb1 := lt_of_block HK1.out.blk
  have hkm : Kp (fun k => k = b) (w1.alloc (.cells #[.slice none 0 0] 102)) wm := by rw [hwm]; exact Kp.set (T := fun k => k = b) rfl _
  have HMd : Hid (Md B P wm b w1.heap.size 1 (.slice none 0 0) []) := by
    refine ⟨HK1.out.bB, Nat.le_trans hB HB1.out.size, ?_, Nat.le_refl _, up_nil, ⟨_, hkm.blk (alloc_block w1 _) (by omega), rfl⟩, ⟨[], Own.nil _ _ _ _ _, HeadsS.nil _ _⟩⟩
    rw [hwm]; exact set_block hKa.blk _
  have HVm : Hid (RowAt wm (.slice p0 (List.length s.vs) c0) s.vs) := row_off (HV.out.on (HB1.out.alloc HB1.out.size _)) rfl hKa.blk hkm
  have HBm : Hid (Kp (Tr b (.slice none 0 0) (.slice none 0 0)) w wm) := (Kp.of (HB1.out.alloc HB1.out.size (.cells #[.slice none 0 0] 102))).trans ⟨hkm.os, hkm.tape, hkm.output, hkm.size, fun k h1 h2 => hkm.block k h1 (fun e => h2 (.inl e))⟩
  have HGw := hid HB1.out.size
  rw [← hwm]
  clear hwm hKa hb1 hkm k1 k1a f1a f0 HK1 HB1
  obtain ⟨g, hg⟩ : ∃ g, g = w1.heap.size := ⟨_, rfl⟩
  rw [← hg] at HMd HGw ⊢
  clear hg
  generalize hns : List.length s.vs = ns at *
  have HNS := hid hns
  clear hns
  have HH : Hid (HeadsS P wm [] []) := HeadsS.nil _ _
  have HO : Hid (Own Sh.cells 2 105 B wm (.slice none 0 0) []) := Own.nil _ _ _ _ _
  have HPm : Hid (∀ k, wm.heap.size ≤ k → P k) := fun k hk => HP.out k (Nat.le_trans HBm.out.size hk)
  have HBwm : Hid (B ≤ wm.heap.size) := Nat.le_trans hB HBm.out.size
  have HLen : Hid (0 ≤ 255) := Nat.zero_le _
  have HN : Hid (([] : List Sp).length = 0) := rfl
  have HPl : Hid (posT s.t [] ≤ 0) := Nat.le_refl _
  go_wp2_with (first
    | (go_at_call 54; refine (cloneK_any (P := P) HVm.out HPm.out).mono ?_; rintro e w2 ⟨p3, c3, rfl, hr2, hb2⟩; have HR2 := hid hr2; have HB2 := hid hb2; clear hb2 hr2))
  have HS3 := hid (alloc_block w2 (.cells #[.int .i64 s.t, .slice p3 (List.length s.vs) c3] 105))
  have HB3 := hid (HB2.out.alloc HB2.out.size (.cells #[.int .i64 s.t, .slice p3 (List.length s.vs) c3] 105))
  have HR3 := hid (row_kp (T := fun _ => False) HR2.out (Kp.of ((Below.refl _ _).alloc (Nat.le_refl _) (.cells #[.int .i64 s.t, .slice p3 (List.length s.vs) c3] 105))) (fun _ _ => id))
  clear HR2 HB2
  generalize (w2.alloc (.cells #[.int .i64 s.t, .slice p3 (List.length s.vs) c3] 105)) = W3 at *
  generalize w2.heap.size = bs at *
  generalize List.length s.vs = ns2 at *
  have HM3 := hid (HMd.out.on HB3.out)
  have HB3d : Hid (Below wm.heap.size wm W3.drew) := HB3.out.drew
  have k1 : W3.drew.cell? ⟨b, 0, none⟩ = _ := HM3.out.k1
  have k2 : W3.drew.cell? ⟨g, 0, none⟩ = _ := HM3.out.k2
  have k3 : W3.drew.cell? ⟨bs, 0, none⟩ = some (.int .i64 s.t) := by show W3.cell? _ = _; rw [block_cell HS3.out]; rfl
  have k4 : W3.drew.cell? ⟨bs, 1, none⟩ = some (.slice p3 ns2 c3) := by show W3.cell? _ = _; rw [block_cell HS3.out]; rfl
  have k1a : ∀ (A : Obj), (W3.alloc A).cell? ⟨b, 0, none⟩ = some (.slice (some ⟨g, 0, none⟩) 1 1) := fun A => (HM3.out.on ((Below.refl _ _).alloc (Nat.le_refl _) A)).k1
  have k2a : ∀ (A : Obj), (W3.alloc A).cell? ⟨g, 0, none⟩ = some (.slice none 0 0) := fun A => (HM3.out.on ((Below.refl _ _).alloc (Nat.le_refl _) A)).k2
  have HOa : Hid (∀ A, Own Sh.cells 2 105 B ((W3.alloc A).drew) (.slice none 0 0) []) := fun A => own_kp (T := fun _ => False) HO.out (Kp.of (HB3.out.alloc HB3.out.size A).drew) (fun _ _ => id)
  have HVa : Hid (((W3.alloc (.cells #[.int .i64 s.t, .slice p3 ns2 c3] 105)).drew).heap[W3.heap.size]? = some (.cells #[.int .i64 s.t, .slice p3 ns2 c3] 105)) := alloc_block W3 _
  have HNe : Hid ((Value.slice none 0 0).ownBlock ≠ some W3.heap.size) := fun e => by have := (own_at HO.out e).2; have := HB3.out.size; omega
  have HLn : Hid (∀ x : Sh, (([] : List Sh).take (posT s.t []) ++ x :: ([] : List Sh).drop (posT s.t [])).length = 0 + 1) := fun x => by
    simp
  have HGb : Hid (∀ (A : Obj) (w5 : World), Kp (fun k => (Value.slice none 0 0).ownBlock = some k) ((W3.alloc A).drew) w5 → w5.cell? ⟨g, 0, none⟩ = some (.slice none 0 0) ∧ w5.frozen? ⟨g, 0, none⟩ = false ∧ w5.cell? ⟨b, 0, none⟩ = some (.slice (some ⟨g, 0, none⟩) 1 1)) := fun A w5 hk => by
    have hm := HM3.out.on ((Below.refl _ _).alloc (Nat.le_refl _) A).drew
    obtain ⟨arr, h4, h5⟩ := hm.gblk
    have h6 := hk.blk h4 hm.ne.2.2.1
    exact ⟨by rw [block_cell h6]; exact h5, block_frozen h6 0, by rw [block_cell (hk.blk hm.blk hm.ne.2.1)]; rfl⟩
  go_region_law (first
    | (refine step_call3 (v := .slice none 0 0) (v2 := .int .i64 (posT s.t [] : Nat)) (v3 := .slice (some ⟨W3.heap.size, 0, none⟩) 1 1) rfl (.tmp 44) (.tmp 45) (.tmp 47) 102 3 102 rfl (by simp [Act.eval]) (by simp [Act.eval]) (by simp [Act.eval]) enters23 ?_; refine (insert_any (s := ⟨s.t, .slice p3 ns2 c3⟩) (HOa.out _) (show 0 ≤ 1000 by have := HLen.out; omega) (HH.out.1.trans HN.out) HPl.out HNe.out (by have := HB3.out.size; have := HBwm.out; simp; omega) HVa.out rfl (heads_one HH.out)).mono ?_; rintro e w5 ⟨pv5, rfl, ho5, hk5, hat5⟩; refine ⟨_, rfl, ?_⟩; obtain ⟨p5, c5, rfl⟩ := own_formN (n := 0 + 1) ho5 (HLn.out _); have HO5 := hid ho5; have HK5 := hid hk5; have HAt5 := hid hat5; have HG5 := hid (HGb.out _ _ hk5); have k5 := HG5.out.1; have f5 := HG5.out.2.1; have q5 := HG5.out.2.2; clear ho5 hk5 hat5))
  all_goals
    have HBa := hid (HB3.out.alloc HB3.out.size (.cells #[.int .i64 s.t, .slice p3 ns2 c3] 105)).drew
    have HRa : Hid (RowIn (ty36 P (W3.alloc (.cells #[.int .i64 s.t, .slice p3 ns2 c3] 105)).drew) (W3.alloc (.cells #[.int .i64 s.t, .slice p3 ns2 c3] 105)).drew (.slice p3 ns2 c3) s.vs) := row_kp (T := fun _ => False) HR3.out (Kp.of ((Below.refl _ _).alloc (Nat.le_refl _) _).drew) (fun _ _ => id)
    obtain ⟨hf1, hf2, hf3⟩ := md_add HMd.out HH.out HBa.out HRa.out HC.out HO5.out HK5.out HAt5.out
    have HF1 := hid hf1
    have HF2 := hid hf2
    have HF3 := hid hf3
    have z1 := (rk_md hf1).k1
    have z2 := (rk_md hf1).k2
    clear hf1 hf2 hf3 k5 f5 q5 k1 k2 k3 k4 k1a k2a
    go_wp2
    go_ret
    exact ⟨by rw [HC.out]; rfl, _, _, by rw [addS_new HC.out]; exact HF1.out, HBm.out.trans' HF2.out (fun k h1 h2 => by rcases h2 with e | e; exact absurd h1 (by rw [e]; have := HGw.out; omega); cases e), fun k hk => by rcases HF3.out k hk with e | e | e | e; exact .inl (.inl e); exact .inr (by rw [e]; exact HGw.out); cases e; exact .inr (Nat.le_trans HBm.out.size e)⟩
theorem add_any {B : Nat} {P : Nat → Prop} {w : World} {b : Nat} {sv pv v : Value} {l : List Sp} {s : Sp} (h : Rk B P w b sv pv l) (hlen : l.length ≤ 255) (hv : RowAt w v s.vs) (hP : ∀ k, w.heap.size ≤ k → P k) (hB : B ≤ w.heap.size) :
    Calls Tryz.prog 30 #[dp b, .int .i64 s.t, v] w (AddP B P w b sv pv l s) := by
  cases hc : hasT l s.t with
  | true => exact add_old h hlen hc
  | false =>
    rcases h.pc with ⟨rfl, rfl, rfl⟩ | ⟨hn, g, c, arr, rfl, -⟩
    · exact add_first h hv hP hB
    · exact add_more h hlen hc hv hP hB
end Go.Proofs.YtlbjbkhcnafhcaaGreat.RN
