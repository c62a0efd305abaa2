/-
  What Clone of package runs returns.
-/
import Derived.Test.YtkjbnanjlcdgjaaQGet
namespace Go.Proofs.Ytkjbnanjlcdgjaa
open Go.RowKit Go.Sort Go.Shelf

set_option maxRecDepth 100000 in
set_option maxHeartbeats 400000 in
theorem cloneS_any {B n : Nat} {pv : Value} {hs : List Sh} {w : World} (ho : Own Sh.cells 2 32 B w pv hs) (hk : ∀ h ∈ hs, h.kv.oneCell' = true) (hl : hs.length ≤ 1000) (hn : hs.length = n) :
    Calls Try.prog 20 #[pv] w fun e w' => ∃ p c, e = .returned (.slice p n c) ∧ Own Sh.cells 2 32 w.heap.size w' (.slice p n c) hs ∧ Below w.heap.size w w' := by
  have q22 : ∀ (w : World) (a : Option Addr) (n c n' c' : Nat), (binOp .eql 22 (.slice a n c) (.slice none n' c')).run Try.prog w = .ok (.bool a.isNone) w := fun w a n c n' c' => Lib.run_eql_slice_nil w _ _ a n c n' c' Try.underlying22
  have HK := hid hk
  have HL := hid hl
  have HS := hid (Own.sl ho sh_len (bs2 hl))
  obtain ⟨p, cap, rfl⟩ := own_formN ho hn
  have HN := hid hn
  clear ho hk hl hn
  cases p with
  | none =>
    have hn := SlAt.empty HS.out
    subst hn
    obtain rfl : n = 0 := HN.out.symm
    go_enter Try.func20, Try.ntmps20
    go_wp2
    go_ret
    exact ⟨none, 0, rfl, Own.nil _ _ _ _ _, Below.refl _ _⟩
  | some ad =>
    go_enter Try.func20, Try.ntmps20
    go_wp2_with (at_builtin; refine app_N (N := 32) elem32 sh_len (fun x hx => sh_cells (HK.out x hx)) rfl _ _ rfl rfl (Own.made Sh.cells 2 32 w.heap.size w (Nat.le_refl _)) rfl (SlAt.on HS.out ((Below.refl _ _).alloc (Nat.le_refl _) _)) (by have := HL.out; simp only [List.length_nil]; omega) (by decide) (by simp) ?_; intro v' w1 hown hg1)
    go_ret
    rw [List.nil_append] at hown
    obtain ⟨p, c, rfl⟩ := own_formN hown HN.out
    refine ⟨p, c, rfl, hown, ?_⟩
    exact ((Below.refl _ _).alloc (Nat.le_refl _) _).trans ((Below.refl _ _).grown hg1 (by simp) (fun k e => by cases e; exact Nat.le_refl _))
theorem enters20 : ∀ args w, (callFunc 20 args).run Try.prog w = .ok (.enter 20 args) w := enters_of Try.func20 (by kernel_rfl) rfl
theorem one1 {w : World} {v : Value} {t : TypeId} : SlAt any one 1 (w.alloc (.cells #[v] t)) (.slice (some ⟨w.heap.size, 0, none⟩) 1 1) [v] := by
  refine ⟨_, 1, rfl, ⟨Nat.le_refl _, fun e => by cases e⟩, by simp [maxLen], fun _ => ⟨_, 0, rfl, ⟨trivial, by simp [bsz]⟩, fun j x hj i u hu => ?_⟩⟩
  have hj0 : j = 0 := by have := (List.getElem?_eq_some_iff.1 hj).1; simp at this; omega
  subst hj0
  simp at hj
  subst hj
  have hi : i = 0 := by have := (List.getElem?_eq_some_iff.1 hu).1; simp [one] at this; omega
  subst hi
  rw [block_cell (alloc_block w _)]
  simpa [one] using hu
theorem own_one {B : Nat} {w : World} {v x : Value} (h : Own one 1 22 B w v [x]) : ∃ g c arr, v = .slice (some ⟨g, 0, none⟩) 1 c ∧ 1 ≤ c ∧ B ≤ g ∧ w.heap[g]? = some (.cells arr 22) ∧ arr[0]? = some x := by
  rcases h.2 with ⟨-, h0⟩ | ⟨g, cap, cur, hv, hg, hblk, hc, hm, hs, ht⟩
  · cases h0
  · refine ⟨g, cap, cur, hv, hc, hg, hblk, ?_⟩
    have : (cur.toList.take (1 * 1))[0]? = some x := by
      have e : [x].length = 1 := rfl
      rw [e] at ht
      rw [ht]; rfl
    rw [List.getElem?_take_of_lt (by decide)] at this
    simpa using this
theorem cloned {B : Nat} {P : Nat → Prop} {w w1 w2 w3 : World} {b1 : Nat} {pv v3 : Value} {l : List Sp} {hs : List Sh} {o : Obj} (hne : l ≠ []) (hu : Up l) (hR : Rk B P w1 b1 (.slice none 0 0) (.slice none 0 0) []) (hB : B ≤ w.heap.size) (hb1 : Below w.heap.size w w1) (hh : HeadsS P w hs l) (hb2 : Below w1.heap.size w1 w2) (ho : Own Sh.cells 2 32 w1.heap.size w2 pv hs)
    (ho3 : Own one 1 22 B w3 v3 [pv]) (hg3 : (w2.alloc o).grownBy w3 (Value.slice none 0 0).ownBlock) :
    Rk B P (w3.setCell ⟨b1, 0, none⟩ v3) b1 v3 pv l ∧ Below B w (w3.setCell ⟨b1, 0, none⟩ v3) ∧ w3.cell? ⟨b1, 0, none⟩ = some (.slice none 0 0) ∧ w3.frozen? ⟨b1, 0, none⟩ = false := by
  have hb3 : Below w2.heap.size w2 w3 := ((Below.refl _ _).alloc (Nat.le_refl _) o).trans ((Below.refl _ _).grown hg3 (by simp) (fun k e => by cases e))
  have hb13 := hb2.trans (hb3.mono hb2.size)
  have hb := hb1.trans (hb13.mono hb1.size)
  have hblk := block_on hR.blk hb13
  obtain ⟨g, c, arr, rfl, h1, h2, h3, h4⟩ := own_one ho3
  have hkb : Kp (fun k => k = b1) w3 (w3.setCell ⟨b1, 0, none⟩ (.slice (some ⟨g, 0, none⟩) 1 c)) := Kp.set (T := fun k => k = b1) rfl _
  have hbl := lt_of_block hR.blk
  refine ⟨⟨hR.bB, set_block hblk _, hu, .inr ⟨hne, g, c, arr, rfl, h1, h2, hkb.blk h3 (fun e => ?_), h4⟩, ⟨hs, own_kp (own_le (own_kp (T := fun _ => False) ho (Kp.of hb3) (fun _ _ => id)) (Nat.le_trans hB hb1.size)) hkb (fun k e1 e2 => ?_), (hh.on hb).kp hkb (fun k hk e => ?_)⟩⟩, ?_, ?_, ?_⟩
  · subst e; rw [hblk] at h3; cases h3
  · have := (own_at ho e1).1; omega
  · obtain ⟨-, x, z, hx⟩ := hk
    subst e; rw [hblk] at hx; cases hx
  · exact (hb.mono hB).trans (hkb.below (Nat.le_trans hB hb.size) (fun k e => by rw [e]; exact hR.bB))
  · rw [block_cell hblk]; rfl
  · exact block_frozen hblk 0
set_option maxRecDepth 100000 in
set_option maxHeartbeats 4000000 in
theorem clone_any {B : Nat} {P : Nat → Prop} {w : World} {b : Nat} {sv pv : Value} {l : List Sp} (h : Rk B P w b sv pv l) (hlen : l.length ≤ 1000) :
    Calls Try.prog 8 #[dp b] w fun e w' => ∃ b' sv' pv', e = .returned (dp b') ∧ Rk w.heap.size P w' b' sv' pv' l ∧ Below w.heap.size w w' := by
  by_cases hne : l = []
  · subst hne
    have HK := hid h
    clear h
    go_enter Try.func8, Try.ntmps8
    go_wp2_with (go_at_call 7; refine (new_any (P := P)).mono ?_; rintro e w1 ⟨b1, rfl, hr1, hb1⟩; have HR1 := hid hr1; have HB1 := hid hb1; have k0 := (rk_none (HK.out.on hb1)).2.2; clear hr1 hb1)
    clear k0
    go_loopw [12] (fun iv wr => iv = .int .i64 0 ∧ Hid (Below w1.heap.size w1 wr)) (fun _ _ => 0)
    case atStart => exact ⟨rfl, Below.refl _ _⟩
    case round =>
      obtain ⟨rfl, HB⟩ := hrel
      go_wp2
      go_ret
      exact ⟨b1, _, _, rfl, HR1.out.on HB.out, HB1.out.trans (HB.out.mono HB1.out.size)⟩
  · obtain ⟨g, c, g2, c2, rfl, rfl, hv⟩ := rk_view h hlen hne
    obtain ⟨hs, ho, hh⟩ := h.row
    have HV := hid hv
    have HO := hid ho
    have HH := hid hh
    have HU := hid h.up
    have HLen := hid hlen
    have HNe := hid hne
    have hc1 := hv.hc
    clear h hv ho hh hne hlen
    generalize hn : l.length = n at *
    have HN := hid hn
    clear hn
    go_enter Try.func8, Try.ntmps8
    go_wp2_with (go_at_call 7; refine (new_any (P := P)).mono ?_; rintro e w1 ⟨b1, rfl, hr1, hb1⟩; have HR1 := hid hr1; have HB1 := hid hb1; have k0 := (HV.out.on hb1).k0; clear hr1 hb1)
    clear k0
    go_loopw [12] (fun iv wr => (iv = .int .i64 0 ∧ wr = w1) ∨ (iv = .int .i64 1 ∧ (∃ sv' pv', Hid (Rk w.heap.size P wr b1 sv' pv' l)) ∧ Hid (Below w.heap.size w wr))) (fun iv _ => 1 - (intOf iv).toNat)
    case atStart => exact .inl ⟨rfl, rfl⟩
    case round =>
      rcases hrel with ⟨rfl, hw⟩ | ⟨rfl, ⟨sv', pv', HR⟩, HB⟩
      · subst hw
        have k1 := (HV.out.on HB1.out).k1
        rw [HN.out] at k1
        go_upto_region 5 with fail
        have q0 : wr.drew.cell? ⟨b1, 0, none⟩ = some (.slice none 0 0) := (rk_none HR1.out).2.2
        have q1 : ∀ A, (wr.alloc A).cell? ⟨b1, 0, none⟩ = some (.slice none 0 0) := fun A => (rk_none (HR1.out.on ((Below.refl _ _).alloc (Nat.le_refl _) A))).2.2
        have M1 : Hid True := trivial
        go_region_law (first
          | (have FIRST := M1; refine step_callC (v := .slice (some ⟨g2, 0, none⟩) n c2) rfl (.tmp 21) 22 rfl (by simp [Act.eval]; try rfl) enters20 ?_; refine (cloneS_any (n := n) (own_kp (T := fun _ => False) HO.out (Kp.of HB1.out.drew) (fun _ _ => id)) (heads_one HH.out) (by rw [HH.out.1, HN.out]; exact HLen.out) (HH.out.1.trans HN.out)).mono ?_; rintro e w2 ⟨p2, c3, rfl, ho2, hb2⟩; refine ⟨_, rfl, ?_⟩; have HO2 := hid ho2; have HB2 : Hid (Below wr.heap.size wr w2) := (Below.refl _ _).drew.trans hb2; have k2 := (rk_none (HR1.out.on HB2.out)).2.2; have k2a : ∀ A, (w2.alloc A).cell? ⟨b1, 0, none⟩ = some (.slice none 0 0) := (fun A => (rk_none ((HR1.out.on HB2.out).on ((Below.refl _ _).alloc (Nat.le_refl _) A))).2.2); clear FIRST M1 ho2 hb2)
          | (refine step_appP (N := 24) (B := w.heap.size) (xs := []) (ys := [.slice p2 n c3]) elem22 one_len (fun x hx => by simp at hx; subst hx; intro c hc; simp [one] at hc; subst hc; rfl) rfl (.tmp 20) (.tmp 23) rfl (by simp [Act.eval]; try rfl) (by simp [Act.eval]; try rfl) (Own.nil _ _ _ _ _) one1 (by simp) (by decide) (by rw [World.size_alloc]; exact Nat.le_trans HB1.out.size (Nat.le_succ_of_le HB2.out.size)) ?_; intro v3 w3 hown3 hg3 hat3; rw [List.nil_append] at hown3; obtain ⟨hf1, hf2, k3, f3⟩ := cloned HNe.out HU.out HR1.out (Nat.le_refl _) HB1.out HH.out HB2.out HO2.out hown3 hg3; obtain ⟨p3, c4, rfl⟩ := own_formN (n := 1) hown3 rfl; have HF1 := hid hf1; have HF2 := hid hf2; clear hown3 hg3 hat3 hf1 hf2))
        all_goals
          go_wp2
          go_roundw
          case rel => exact .inr ⟨by go_num, ⟨_, _, HF1.out⟩, HF2.out⟩
          case measure => simp [intOf]
      · go_wp2
        go_ret
        exact ⟨b1, sv', pv', rfl, HR.out, HB.out⟩
end Go.Proofs.Ytkjbnanjlcdgjaa
