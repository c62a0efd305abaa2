/-
  What the reference's Add returns, and what it leaves.
-/
import Derived.Test.YtkjbnanjlcdgjaaQRef
namespace Go.Proofs.Ytkjbnanjlcdgjaa
open Go.RowKit Go.Sort Go.Shelf

theorem sh_grown {B : Nat} {P : Nat → Prop} {W w5 : World} {ov kv : Value} {hs : List Sh} {L : List Sp} {s : Sp} {A : Obj} (ho : Own Sh.cells 2 32 B W ov hs) (hh : HeadsS P W hs L) (hr : RowIn (ty36 P W) W kv s.vs) (hB : B ≤ W.heap.size) (hg : (W.alloc A).grownBy w5 ov.ownBlock) :
    HeadsS P w5 (hs ++ [⟨s.t, kv⟩]) (L ++ [s]) ∧ Below B W w5 ∧ Kp (fun x => ov.ownBlock = some x) W w5 := by
  have hba := (Below.refl W.heap.size W).alloc (Nat.le_refl _) A
  have hoa := own_kp (T := fun _ => False) ho (Kp.of hba) (fun _ _ => id)
  have hkk := Kp.grown (T := fun x => ov.ownBlock = some x) hg (fun k e => e)
  have hT : ∀ k, ty36 P (W.alloc A) k → ¬ ov.ownBlock = some k := fun k hk e => by
    obtain ⟨-, x, y, hx⟩ := hk
    obtain ⟨x', y', hx'⟩ := own_kind hoa e
    rw [hx] at hx'; cases hx'
  have hh4 := (hh.on hba).kp hkk hT
  have hr4 := row_kp (row_kp (T := fun _ => False) hr (Kp.of hba) (fun _ _ => id)) hkk hT
  exact ⟨hh4.app (HeadsS.one (h := ⟨s.t, kv⟩) (s := s) rfl hr4), (hba.mono hB).trans (own_below hoa hg (Nat.le_trans hB hba.size)), (Kp.of hba).trans hkk⟩
def rmid (l : List Sp) (s : Sp) (p k : Nat) : List Sp := if k ≤ p then l.take k else l.take p ++ s :: (l.drop p).take (k - p)
theorem rmid_lt {l : List Sp} {s x : Sp} {p k : Nat} (h : k < p) (hx : l[k]? = some x) : rmid l s p (k + 1) = rmid l s p k ++ [x] := by
  unfold rmid; rw [if_pos (by omega), if_pos (by omega), take_snoc hx]
theorem rmid_at {l : List Sp} {s x : Sp} {p : Nat} (hx : l[p]? = some x) : rmid l s p (p + 1) = rmid l s p p ++ [s] ++ [x] := by
  unfold rmid; rw [if_neg (by omega), if_pos (Nat.le_refl _), show p + 1 - p = 0 + 1 by omega, take_snoc (s := x) (by rw [List.getElem?_drop]; exact hx)]
  simp
theorem rmid_gt {l : List Sp} {s x : Sp} {p k : Nat} (h : p < k) (hx : l[k]? = some x) : rmid l s p (k + 1) = rmid l s p k ++ [x] := by
  unfold rmid; rw [if_neg (by omega), if_neg (by omega), show k + 1 - p = (k - p) + 1 by omega, take_snoc (s := x) (by rw [List.getElem?_drop, show p + (k - p) = k by omega]; exact hx)]
  simp
theorem rmid_len {l : List Sp} {s : Sp} {p k : Nat} : (rmid l s p k).length ≤ l.length + 1 := by
  unfold rmid; split
  · simp; omega
  · simp; omega
theorem rmid_done {l : List Sp} {s : Sp} {p : Nat} (h : p < l.length) : rmid l s p l.length = l.take p ++ s :: l.drop p := by
  unfold rmid; rw [if_neg (by omega), List.take_of_length_le (l := l.drop p) (by simp)]
theorem rmid_end {l : List Sp} {s : Sp} {p : Nat} (h : p = l.length) : rmid l s p l.length ++ [s] = l.take p ++ s :: l.drop p := by
  unfold rmid; rw [if_pos (by omega), h]; simp
def RAddP (B : Nat) (P : Nat → Prop) (w : World) (y : Nat) (yv : Value) (l : List Sp) (s : Sp) (e : Ending) (w' : World) : Prop :=
  e = .returned (.bool (!hasT l s.t)) ∧ ∃ yv', Ry B P w' y yv' (addS l s) ∧ Kp (fun k => k = y) w w' ∧ ∀ k, Ty y yv' k → Ty y yv k ∨ w.heap.size ≤ k
theorem ry_end {B : Nat} {P : Nat → Prop} {w w5 : World} {y : Nat} {yv v5 : Value} {l : List Sp} {s : Sp} {hs : List Sh} (h : Ry B P w y yv l) (hB : B ≤ w.heap.size) (hc : hasT l s.t = false) (hb : Below w.heap.size w w5) (ho : Own Sh.cells 2 32 w.heap.size w5 v5 hs) (hh : HeadsS P w5 hs (insS l s)) :
    w5.cell? ⟨y, 0, none⟩ = some yv ∧ w5.frozen? ⟨y, 0, none⟩ = false ∧ Ry B P (w5.setCell ⟨y, 0, none⟩ v5) y v5 (insS l s) ∧ Kp (fun k => k = y) w (w5.setCell ⟨y, 0, none⟩ v5) ∧ ∀ k, Ty y v5 k → Ty y yv k ∨ w.heap.size ≤ k := by
  have hblk := block_on h.blk hb
  have hyl := lt_of_block h.blk
  have hk : Kp (fun k => k = y) w5 (w5.setCell ⟨y, 0, none⟩ v5) := Kp.set (T := fun k => k = y) rfl _
  refine ⟨by rw [block_cell hblk]; rfl, block_frozen hblk 0, ⟨h.yB, set_block hblk _, insS_up h.up hc, ⟨hs, own_kp (own_le ho hB) hk (fun k e1 e2 => ?_), hh.kp hk (fun k hk e => ?_)⟩⟩, (Kp.of hb).trans hk, ?_⟩
  · have := (own_at ho e1).1; omega
  · obtain ⟨-, x, z, hx⟩ := hk
    subst e; rw [hblk] at hx; cases hx
  · rintro k (e | e)
    · exact .inl (.inl e)
    · exact .inr (own_at ho e).1
set_option maxRecDepth 100000 in
set_option maxHeartbeats 4000000 in
theorem radd_any {B : Nat} {P : Nat → Prop} {w : World} {y : Nat} {yv v : Value} {l : List Sp} {s : Sp} (h : Ry B P w y yv l) (hlen : l.length ≤ 500) (hv : RowAt w v s.vs) (hP : ∀ k, w.heap.size ≤ k → P k) (hB : B ≤ w.heap.size) :
    Calls Try.prog 10 #[dp y, .int .i64 s.t, v] w (RAddP B P w y yv l s) := by
  have HK := hid h
  have HLen := hid hlen
  cases hc : hasT l s.t with
  | true =>
    have HC := hid hc
    clear h hlen hc hP hv
    go_enter Try.func10, Try.ntmps10
    go_wp2_with (go_at_call 12; refine (rget_any HK.out (by have := HLen.out; omega)).mono ?_; rintro e w1 ⟨p1, c1, rfl, -, hb1⟩; rw [HC.out]; have HB1 := hid hb1; clear hb1)
    go_ret
    exact ⟨by rw [HC.out]; rfl, yv, by rw [addS_old HC.out]; exact HK.out.on HB1.out, Kp.of HB1.out, fun k hk => .inl hk⟩
  | false =>
    have HC := hid hc
    have HV := hid hv
    have HP := hid hP
    have HBk := hid h.blk
    obtain ⟨p, c, rfl, hcap, hx⟩ := ry_sl h (by omega)
    have HX := hid hx
    obtain ⟨p0, c0, rfl, -⟩ := hv
    have hpl := posT_le s.t l
    have HPlt := hid (fun j x (hj : j < posT s.t l) (hs : l[j]? = some x) => posT_lt hj hs)
    have HPge := hid (fun j x (hj : posT s.t l ≤ j) (hs : l[j]? = some x) => (show s.t < x.t by have h1 := posT_ge h.up hj hs; have h2 := hasT_no hc (List.mem_of_getElem? hs); omega))
    have HIns : Hid (insS l s = l.take (posT s.t l) ++ s :: l.drop (posT s.t l)) := rfl
    clear hx h hc hP
    generalize posT s.t l = pp at *
    generalize hn : l.length = n at *
    have HN := hid hn
    clear hn
    generalize hns : List.length s.vs = ns at *
    have HNS := hid hns
    clear hns
    go_enter Try.func10, Try.ntmps10
    go_wp2_with (first
      | (go_at_call 12; refine (rget_any HK.out (by have := HLen.out; have := HN.out; omega)).mono ?_; rintro e w1 ⟨p1, c1, rfl, -, hb1⟩; rw [HC.out]; have HB1 := hid hb1; clear hb1)
      | (at_builtin; refine app_any elem48 vl_len (fun x _ => vl_cells x) rfl _ _ rfl rfl (Own.made Vl.cells 11 36 w1.heap.size w1 (Nat.le_refl _)) rfl (SlAt.on (HV.out.on HB1.out) ((Below.refl _ _).alloc (Nat.le_refl _) _)) (by simpa using SlAt.bound HV.out) (by simp) ?_; intro v2 w2 hown2 hb2; rw [List.nil_append] at hown2; have HR2 := hid (own_rowT (P := P) hown2 (fun k hk => HP.out k (Nat.le_trans HB1.out.size hk)) (SlAt.bound HV.out)); have HB2 := hid (HB1.out.trans ((((Below.refl _ _).alloc (Nat.le_refl _) _).trans hb2).mono HB1.out.size)); obtain ⟨p2, c2, rfl⟩ := own_formN hown2 HNS.out; clear hown2 hb2))
    have HS3 := hid (alloc_block w2 (.cells #[.int .i64 s.t, .slice p2 ns c2] 32))
    have hba := (Below.refl w2.heap.size w2).alloc (Nat.le_refl _) (.cells #[.int .i64 s.t, .slice p2 ns c2] 32)
    have HR3 := hid (row_kp (T := fun _ => False) HR2.out (Kp.of hba) (fun _ _ => id))
    have HB3 := hid (HB2.out.trans (hba.mono HB2.out.size))
    have HBs := hid HB2.out.size
    clear hba HR2 HB2
    generalize (w2.alloc (.cells #[.int .i64 s.t, .slice p2 ns c2] 32)) = W3 at *
    generalize w2.heap.size = bs at *
    go_loopw [10, 11, 12] (fun ov dv i wr => ∃ (k : Nat) (hs : List Sh), k ≤ n ∧ i = .int .i64 k ∧ dv = .bool (decide (pp < k)) ∧ Hid (Own Sh.cells 2 32 (bs + 1) wr ov hs) ∧ Hid (HeadsS P wr hs (rmid l s pp k)) ∧ Hid (Below w.heap.size w wr) ∧ Hid (wr.heap[bs]? = some (.cells #[.int .i64 s.t, .slice p2 ns c2] 32)) ∧ Hid (RowIn (ty36 P wr) wr (.slice p2 ns c2) s.vs)) (fun _ _ i _ => n - (intOf i).toNat)
    case atStart => exact ⟨0, [], by omega, rfl, by simp, Own.nil _ _ _ _ _, (by unfold rmid; rw [if_pos (Nat.zero_le _)]; exact HeadsS.nil _ _), HB3.out, HS3.out, HR3.out⟩
    case round =>
      obtain ⟨k, hs, hk, rfl, rfl, HO, HH, HB, HS, HR⟩ := hrel
      obtain ⟨W1, hW1⟩ : ∃ W, W = wr := ⟨wr, rfl⟩
      subst hW1
      have k0 := block_cell (block_on HBk.out HB.out)
      have z0 := block_cell HS.out
      clear HS3 HR3 HB3
      have HSz : Hid (bs + 1 ≤ W1.heap.size) := lt_of_block HS.out
      by_cases hlt : k < n
      · have hk' : k < l.length := by rw [HN.out]; exact hlt
        obtain ⟨x, hxk⟩ : ∃ x, l[k]? = some x := ⟨l[k], List.getElem?_eq_getElem hk'⟩
        obtain ⟨g, o, kp, kc, rfl, c0, c1, hr⟩ := HX.out k x hxk
        have HXc0 := hid (fun w' (hb : Below w.heap.size w w') => cell_onB c0 hb)
        have HXc1 := hid (fun w' (hb : Below w.heap.size w w') => cell_onB c1 hb)
        have HXr := hid (fun w' (hb : Below w.heap.size w w') => row_kp (T := fun _ => False) hr (Kp.of hb) (fun _ _ => id))
        have d0 := cell_onB c0 HB.out
        have d1 := cell_onB c1 HB.out
        have HRx := hid (HXr.out W1 HB.out)
        have HXk := hid hxk
        clear c0 c1 hr hxk
        generalize List.length x.vs = nx at *
        by_cases h1 : k < pp
        · have hxt := HPlt.out k x h1 HXk.out
          have hdd : decide (pp < k) = false := by simp; omega
          rw [hdd]
          have HM := hid (rmid_lt (s := s) h1 HXk.out)
          go_wp2_with (at_builtin; refine app_P (N := 32) (B := bs + 1) (xs := hs) (ys := [⟨x.t, .slice kp nx kc⟩]) elem32 sh_len (fun x hx => by simp at hx; subst hx; exact sh_cells rfl) rfl _ _ rfl rfl (own_kp (T := fun _ => False) HO.out (Kp.of ((Below.refl _ _).alloc (Nat.le_refl _) _)) (fun _ _ => id)) rfl (sh_sl (s := ⟨x.t, .slice kp nx kc⟩) (alloc_block _ _)) (by rw [HH.out.1]; have := rmid_len (l := l) (s := s) (p := pp) (k := k); have := HN.out;  simp; omega) (by decide) (by rw [World.size_alloc]; exact Nat.le_succ_of_le HSz.out) ?_; intro v5 w5 hown5 hg5 hat5; obtain ⟨q1, q2, q3⟩ := sh_grown (s := x) (kv := .slice kp nx kc) HO.out HH.out HRx.out HSz.out hg5; have GO := hid hown5; have GH := hid q1; have GB := hid (HB.out.trans (q2.mono (Nat.le_succ_of_le HBs.out))); have GS := hid ((q2.block bs (Nat.lt_succ_self _)).trans HS.out); have GR := hid (row_kp HR.out q3 (fun j hj e => by obtain ⟨-, c', f', h'⟩ := hj; obtain ⟨c'', f'', h''⟩ := own_kind HO.out e; rw [h'] at h''; cases h'')); have GZ := hid (Nat.le_trans HSz.out q2.size); clear hown5 hg5 hat5 q1 q2 q3)
          go_roundw
          case rel => exact ⟨k + 1, _, by omega, by go_num, (by congr 1; symm; simp; omega), GO.out, (by rw [HM.out]; exact GH.out), GB.out, GS.out, GR.out⟩
          case measure => simp [intOf]; omega
        · have hxt := HPge.out k x (by omega) HXk.out
          by_cases h2 : k = pp
          · obtain rfl : pp = k := h2.symm
            have hdd : decide (pp < pp) = false := by simp
            rw [hdd]
            have HM := hid (rmid_at (s := s) HXk.out)
            have M1 : Hid True := trivial
            go_wp2_with (first
              | (have FIRST := M1; at_builtin; refine app_P (N := 32) (B := bs + 1) (xs := hs) (ys := [⟨s.t, .slice p2 ns c2⟩]) elem32 sh_len (fun x hx => by simp at hx; subst hx; exact sh_cells rfl) rfl _ _ rfl rfl (own_kp (T := fun _ => False) HO.out (Kp.of ((Below.refl _ _).alloc (Nat.le_refl _) _)) (fun _ _ => id)) rfl (sh_sl (s := ⟨s.t, .slice p2 ns c2⟩) (alloc_block _ _)) (by rw [HH.out.1]; have := rmid_len (l := l) (s := s) (p := pp) (k := pp); have := HN.out;  simp; omega) (by decide) (by rw [World.size_alloc]; exact Nat.le_succ_of_le HSz.out) ?_; intro v4 w4 hown5 hg5 hat5; obtain ⟨q1, q2, q3⟩ := sh_grown (s := s) (kv := .slice p2 ns c2) HO.out HH.out HR.out HSz.out hg5; have FO := hid hown5; have FH := hid q1; have FB := hid (HB.out.trans (q2.mono (Nat.le_succ_of_le HBs.out))); have FS := hid ((q2.block bs (Nat.lt_succ_self _)).trans HS.out); have FR := hid (row_kp HR.out q3 (fun j hj e => by obtain ⟨-, c', f', h'⟩ := hj; obtain ⟨c'', f'', h''⟩ := own_kind HO.out e; rw [h'] at h''; cases h'')); have FZ := hid (Nat.le_trans HSz.out q2.size); clear hown5 hg5 hat5 q1 q2 q3 FIRST M1; have k4 := block_cell (block_on HBk.out FB.out); have e0 := HXc0.out w4 FB.out; have e1 := HXc1.out w4 FB.out; have FRx := hid (HXr.out w4 FB.out); clear k0 d0 d1 z0)
              | (at_builtin; refine app_P (N := 32) (B := bs + 1) (xs := (hs ++ [⟨s.t, .slice p2 ns c2⟩])) (ys := [⟨x.t, .slice kp nx kc⟩]) elem32 sh_len (fun x hx => by simp at hx; subst hx; exact sh_cells rfl) rfl _ _ rfl rfl (own_kp (T := fun _ => False) FO.out (Kp.of ((Below.refl _ _).alloc (Nat.le_refl _) _)) (fun _ _ => id)) rfl (sh_sl (s := ⟨x.t, .slice kp nx kc⟩) (alloc_block _ _)) (by rw [FH.out.1]; have := rmid_len (l := l) (s := s) (p := pp) (k := pp); have := HN.out; rw [List.length_append]; simp; omega) (by decide) (by rw [World.size_alloc]; exact Nat.le_succ_of_le FZ.out) ?_; intro v5 w5 hown5 hg5 hat5; obtain ⟨q1, q2, q3⟩ := sh_grown (s := x) (kv := .slice kp nx kc) FO.out FH.out FRx.out FZ.out hg5; have GO := hid hown5; have GH := hid q1; have GB := hid (FB.out.trans (q2.mono (Nat.le_succ_of_le HBs.out))); have GS := hid ((q2.block bs (Nat.lt_succ_self _)).trans FS.out); have GR := hid (row_kp FR.out q3 (fun j hj e => by obtain ⟨-, c', f', h'⟩ := hj; obtain ⟨c'', f'', h''⟩ := own_kind FO.out e; rw [h'] at h''; cases h'')); have GZ := hid (Nat.le_trans FZ.out q2.size); clear hown5 hg5 hat5 q1 q2 q3))
            go_roundw
            case rel => exact ⟨pp + 1, _, by omega, by go_num, (by congr 1; symm; simp), GO.out, (by rw [HM.out]; exact GH.out), GB.out, GS.out, GR.out⟩
            case measure => simp [intOf]; omega
          · have hdd : decide (pp < k) = true := by simp; omega
            rw [hdd]
            have HM := hid (rmid_gt (s := s) (show pp < k by omega) HXk.out)
            go_wp2_with (at_builtin; refine app_P (N := 32) (B := bs + 1) (xs := hs) (ys := [⟨x.t, .slice kp nx kc⟩]) elem32 sh_len (fun x hx => by simp at hx; subst hx; exact sh_cells rfl) rfl _ _ rfl rfl (own_kp (T := fun _ => False) HO.out (Kp.of ((Below.refl _ _).alloc (Nat.le_refl _) _)) (fun _ _ => id)) rfl (sh_sl (s := ⟨x.t, .slice kp nx kc⟩) (alloc_block _ _)) (by rw [HH.out.1]; have := rmid_len (l := l) (s := s) (p := pp) (k := k); have := HN.out;  simp; omega) (by decide) (by rw [World.size_alloc]; exact Nat.le_succ_of_le HSz.out) ?_; intro v5 w5 hown5 hg5 hat5; obtain ⟨q1, q2, q3⟩ := sh_grown (s := x) (kv := .slice kp nx kc) HO.out HH.out HRx.out HSz.out hg5; have GO := hid hown5; have GH := hid q1; have GB := hid (HB.out.trans (q2.mono (Nat.le_succ_of_le HBs.out))); have GS := hid ((q2.block bs (Nat.lt_succ_self _)).trans HS.out); have GR := hid (row_kp HR.out q3 (fun j hj e => by obtain ⟨-, c', f', h'⟩ := hj; obtain ⟨c'', f'', h''⟩ := own_kind HO.out e; rw [h'] at h''; cases h'')); have GZ := hid (Nat.le_trans HSz.out q2.size); clear hown5 hg5 hat5 q1 q2 q3)
            go_roundw
            case rel => exact ⟨k + 1, _, by omega, by go_num, (by congr 1; symm; simp; omega), GO.out, (by rw [HM.out]; exact GH.out), GB.out, GS.out, GR.out⟩
            case measure => simp [intOf]; omega
      · obtain rfl : k = n := by omega
        by_cases h1 : pp < k
        · have hdd : decide (pp < k) = true := by simp; omega
          rw [hdd]
          have f0 := block_frozen (block_on HBk.out HB.out)
          obtain ⟨p7, c7, rfl⟩ := own_formN HO.out HH.out.1
          have HFin := hid (ry_end HK.out hB HC.out HB.out (own_le HO.out (Nat.le_succ_of_le HBs.out)) (by have h2 := HH.out; rw [← HN.out, rmid_done (by rw [HN.out]; exact h1), ← HIns.out] at h2; exact h2)).2.2
          go_wp2
          go_ret
          exact ⟨by rw [HC.out]; rfl, _, by rw [addS_new HC.out]; exact HFin.out.1, HFin.out.2.1, HFin.out.2.2⟩
        · obtain rfl : pp = k := by omega
          have hdd : decide (pp < pp) = false := by simp
          rw [hdd]
          go_wp2_with (at_builtin; refine app_P (N := 32) (B := bs + 1) (xs := hs) (ys := [⟨s.t, .slice p2 ns c2⟩]) elem32 sh_len (fun x hx => by simp at hx; subst hx; exact sh_cells rfl) rfl _ _ rfl rfl (own_kp (T := fun _ => False) HO.out (Kp.of ((Below.refl _ _).alloc (Nat.le_refl _) _)) (fun _ _ => id)) rfl (sh_sl (s := ⟨s.t, .slice p2 ns c2⟩) (alloc_block _ _)) (by rw [HH.out.1]; have := rmid_len (l := l) (s := s) (p := pp) (k := pp); have := HN.out;  simp; omega) (by decide) (by rw [World.size_alloc]; exact Nat.le_succ_of_le HSz.out) ?_; intro v5 w5 hown5 hg5 hat5; obtain ⟨q1, q2, q3⟩ := sh_grown (s := s) (kv := .slice p2 ns c2) HO.out HH.out HR.out HSz.out hg5; obtain ⟨p5, c5, rfl⟩ := own_formN (n := hs.length + 1) hown5 (by simp); have GO := hid hown5; have GH := hid q1; have GB := hid (HB.out.trans (q2.mono (Nat.le_succ_of_le HBs.out))); have GS := hid ((q2.block bs (Nat.lt_succ_self _)).trans HS.out); have GR := hid (row_kp HR.out q3 (fun j hj e => by obtain ⟨-, c', f', h'⟩ := hj; obtain ⟨c'', f'', h''⟩ := own_kind HO.out e; rw [h'] at h''; cases h'')); have GZ := hid (Nat.le_trans HSz.out q2.size); clear hown5 hg5 hat5 q1 q2 q3; have k5 := block_cell (block_on HBk.out GB.out); have f5 := block_frozen (block_on HBk.out GB.out); clear k0 z0)
          have HFin := hid (ry_end HK.out hB HC.out GB.out (own_le GO.out (Nat.le_succ_of_le HBs.out)) (by have h2 := GH.out; rw [show rmid l s pp pp = rmid l s pp l.length by rw [HN.out], rmid_end HN.out.symm, ← HIns.out] at h2; exact h2)).2.2
          go_ret
          exact ⟨by rw [HC.out]; rfl, _, by rw [addS_new HC.out]; exact HFin.out.1, HFin.out.2.1, HFin.out.2.2⟩
end Go.Proofs.Ytkjbnanjlcdgjaa
