/-
  Package pred's Where.
-/
import Derived.Test.YtcidijjbcebcbaaKH10
import Derived.Test.YtcidijjbcebcbaaKH16
import Derived.Test.YtcidijjbcebcbaaKH17
namespace Go.Proofs.Ytcidijjbcebcbaa.PD
open Go.RowKit Go.Joins

theorem tn_low {α : Type} {Q : Nat → Prop} {enc : α → List Value} {k : Nat} {w : World} {v : Value} {xs : List α} (h : TN.SlAt Q enc k w v xs) (he : ∀ x, ∃ u, (enc x)[0]? = some u) : TN.SlAt (fun b => b < w.heap.size) enc k w v xs := by
  obtain ⟨p, cap, hv, hc, hm, hx⟩ := h
  refine ⟨p, cap, hv, hc, hm, fun hne => ?_⟩
  obtain ⟨b, o, hp, hQ, hj⟩ := hx hne
  refine ⟨b, o, hp, ⟨?_, hQ.2⟩, hj⟩
  match xs, hne with
  | x :: r, _ =>
    obtain ⟨u, hu⟩ := he x
    exact block_lt_of_cell (hj 0 x rfl 0 u hu)
theorem filt_take {α : Type} {f : α → Bool} {l : List α} {k : Nat} {x : α} (h : l[k]? = some x) : (l.take (k + 1)).filter f = if f x = true then (l.take k).filter f ++ [x] else (l.take k).filter f := by
  rw [List.take_add_one, h, List.filter_append]
  by_cases e : f x = true
  · rw [if_pos e]; simp [e]
  · rw [if_neg e]; simp [e]
def WhP' (cs : List TN.Cl) (rs : List TN.Rw) (w : World) (x : Ending) (w' : World) : Prop := ∃ cv rv hs, x = .returned (.agg #[cv, rv]) ∧ TN.SlAt (fun b => w.heap.size ≤ b ∧ b < w'.heap.size) TN.Cl.cells 2 w' cv cs ∧ Rws w.heap.size w' rv hs rs ∧ Below w.heap.size w w'
set_option maxRecDepth 100000 in
set_option maxHeartbeats 4000000 in
theorem where_in {n : Nat} {nv cv rv : Value} {qs : List Nx} {cs : List TN.Cl} {rs : List TN.Rw} {hs : List Value} {w : World} (hq : Qx (fun b => b < w.heap.size) w nv qs) (hn : n < qs.length) (hl : qs.length ≤ 1000) (hc : TN.ColsAt w cv cs) (hr : TN.SlAt TN.any TN.one 1 w rv hs) (hh : TN.HeadsIn TN.any w hs rs) (hM : Mx w) (hz : ∀ q ∈ qs, q.np.kind = 15 → ∀ r ∈ rs, Rsz r) (hrl : rs.length ≤ 1000000) : Calls Try.prog 21 #[.agg #[cv, rv], .agg #[nv], .int .i64 (n : Int)] w (WhP' cs (rs.filter (holdsX cs qs n)) w) := by
  obtain ⟨pn, cn, rfl, -, -⟩ := hq.sl.form
  obtain ⟨pc, cc, hpc, -⟩ := id hc
  obtain ⟨pr, cr, hpr, -⟩ := id hr
  subst hpc hpr
  obtain ⟨W, hW⟩ : ∃ W, W = ((w.alloc (.cells #[.slice pc cs.length cc, .slice pr hs.length cr] 28)).alloc (.cells #[.slice pn qs.length cn] 24)).alloc (.cells #[.slice none 0 0, .slice none 0 0] 28) := ⟨_, rfl⟩
  have hb1 : Below w.heap.size w (w.alloc (.cells #[.slice pc cs.length cc, .slice pr hs.length cr] 28)) := (Below.refl _ _).alloc (Nat.le_refl _) _
  have hb2 : Below w.heap.size w W := by rw [hW]; exact (hb1.alloc hb1.size _).alloc (Nat.le_trans hb1.size (by simp)) _
  have hT : W.heap[w.heap.size]? = some (.cells #[.slice pc cs.length cc, .slice pr hs.length cr] 28 (0, 0)) := by
    rw [hW]
    exact block_on (block_on (alloc_block w _) ((Below.refl _ _).alloc (Nat.le_refl _) _)) ((Below.refl _ _).alloc (Nat.le_refl _) _)
  have hO : W.heap[w.heap.size + 1 + 1]? = some (.cells #[.slice none 0 0, .slice none 0 0] 28 (0, 0)) := by
    rw [hW]
    have := alloc_block ((w.alloc (.cells #[.slice pc cs.length cc, .slice pr hs.length cr] 28)).alloc (.cells #[.slice pn qs.length cn] 24)) (.cells #[.slice none 0 0, .slice none 0 0] 28)
    simpa using this
  have hN : W.heap[w.heap.size + 1]? = some (.cells #[.slice pn qs.length cn] 24 (0, 0)) := by
    rw [hW]
    have := alloc_block (w.alloc (.cells #[.slice pc cs.length cc, .slice pr hs.length cr] 28)) (.cells #[.slice pn qs.length cn] 24)
    exact block_on (by simpa using this) ((Below.refl _ _).alloc (Nat.le_refl _) _)
  have y0 : W.cell? ⟨w.heap.size, 0, none⟩ = some (.slice pc cs.length cc) := block_cell hT 0
  have y1 : W.cell? ⟨w.heap.size + 1, 0, none⟩ = some (.slice pn qs.length cn) := block_cell hN 0
  have HB := hid hb2
  have HCo := hid (tn_low hc (fun x => ⟨_, rfl⟩))
  have HRo := hid (tn_low hr (fun x => ⟨_, rfl⟩))
  have HRw : Hid (∀ (j : Nat) h r, hs[j]? = some h → rs[j]? = some r → TN.RowIn (fun b => b < w.heap.size) w h r) := fun j h r h1 h2 => row_lt (hh.2 j h r h1 h2)
  have HLn := hid hh.1
  have HN := hid (cnd_make (i := n) (qx_lt hq hb2) hn (by omega) (hc.on hb2))
  have HM := hid (hM.on hb2)
  have HP := hid (mx_pos hM)
  have HZ := hid hz
  have HRL := hid hrl
  have HT := hid hT
  have HO := hid hO
  have HW := hid hW
  have hbs := hb2.size
  clear hq hn hl hc hr hh hM hz hb1 hb2 hT hO hN hW
  go_enter Try.func21, Try.ntmps21
  go_upto_region 1 with fail
  rw [← HW.out]
  clear HW
  go_upto_region 3 with (go_at_call 46; refine HN.out.mono ?_; rintro e w1 ⟨hd, hvb, sb, ib, sg, sc, svs, ls, hs0, rfl, g1, g2, g3, g4, hb⟩; have HC1 := hid g1; have HD1 := hid g2; have HDl := hid g3; have HG1 := hid g4; have HBc := hid hb; clear g1 g2 g3 g4 hb)
  have HT1 := hid (block_on HT.out HBc.out)
  have HO1 := hid (block_on HO.out HBc.out)
  have HB1 : Hid (Below w.heap.size w w1) := HB.out.trans (HBc.out.mono hbs)
  have HM1 := hid (HM.out.on HBc.out)
  have hbc := HBc.out.size
  have y2 : w1.cell? ⟨w.heap.size, 1, none⟩ = some (.slice pr hs.length cr) := block_cell HT1.out 1
  obtain ⟨m, hm⟩ : ∃ m, hs.length = m := ⟨_, rfl⟩
  have HMm := hid hm
  have hml : m ≤ 1000000 := by have := HLn.out; have := HRL.out; omega
  rw [hm] at y2
  have HRo2 : Hid (TN.SlAt (fun b => b < w.heap.size) TN.one 1 w (.slice pr m cr) hs) := by rw [← hm]; exact HRo.out
  have mI : (m : Int) ≤ 1000000 := by omega
  clear HRo hm
  go_upto_region 4 with fail
  have HKb : Hid (∀ wr, Kp (fun b => b = hd) w1 wr → Below w.heap.size w wr) := fun wr hk => HB1.out.trans (hk.below (by omega) (fun b e => by have := HG1.out; omega))
  go_loopw [20, 8] (fun x v wr => ∃ k : Nat, k ≤ m ∧ x = .int .i64 k ∧ Hid (Kp (fun b => b = hd) w1 wr) ∧ Hid (∃ hb, Hd wr hd hb ∧ hb.length = n + 1) ∧ Hid (∃ hs', Rws w1.heap.size wr v hs' ((rs.take k).filter (holdsX cs qs n)))) (fun x _ _ => m - (intOf x).toNat)
  case atStart => exact ⟨0, by omega, rfl, Kp.refl _ _, ⟨hs0, HD1.out, HDl.out⟩, [], Rws.nil _ _⟩
  case round =>
    obtain ⟨k, hk, rfl, HK, HHd, HRs⟩ := hrel
    obtain ⟨hb, hH, hHl⟩ := HHd.out
    obtain ⟨hs', hRs⟩ := HRs.out
    obtain ⟨pv, cv', rfl⟩ := hRs.own.form
    have HBr := hid (HKb.out wr HK.out)
    have hd1 : hd < w1.heap.size := lt_of_block HD1.out
    have hgd := HG1.out
    by_cases hkm : k < m
    · have kI : (k : Int) < m := by omega
      have k0 : (0 : Int) ≤ k := by omega
      obtain ⟨h, hh⟩ : ∃ h, hs[k]? = some h := ⟨_, List.getElem?_eq_getElem (by have := HMm.out; omega)⟩
      obtain ⟨r, hrr⟩ : ∃ r, rs[k]? = some r := ⟨_, List.getElem?_eq_getElem (by have := HMm.out; have := HLn.out; omega)⟩
      have hrow := HRw.out k h r hh hrr
      obtain ⟨bh, oh, cellh⟩ : ∃ b o, pr = some ⟨b, o, none⟩ ∧ wr.cell? ⟨b, o + k, none⟩ = some h := by
        obtain ⟨p', c', e', -, -, hx⟩ := HRo2.out.on HBr.out
        cases e'
        obtain ⟨b, o, hp, -, hj⟩ := hx (by intro e; rw [e] at hh; simp at hh)
        exact ⟨b, o, hp, by have := hj k h hh 0 h rfl; simpa using this⟩
      obtain ⟨rfl, yh⟩ := cellh
      have hrr2 : TN.RowIn (fun b => b < w.heap.size) wr h r := hrow.on HBr.out
      obtain ⟨ph, ch, eh, -⟩ := id hrr2
      subst eh
      have HRun := hid (cond_run (HC1.out.kp HK.out HD1.out) hH hHl (hrr2.imp (fun b hb => by omega)) (mx_kp HM1.out HK.out (by have := HP.out; omega)) (by have := HP.out; omega) (fun q hq hk => HZ.out q hq hk r (List.mem_of_getElem? hrr)))
      have HX := hid hrr
      have HRs1 := hid hRs
      have HRw2 := hid hrr2
      have HFt := hid (filt_take (f := holdsX cs qs n) hrr)
      clear hH hHl hRs hrow hrr hh hrr2 HHd HRs
      cases hb2 : holdsX cs qs n r with
      | false =>
        rw [hb2] at HRun
        rw [hb2, if_neg (by decide)] at HFt
        clear hb2
        go_wp2_with (go_at_call 79; refine HRun.out.mono ?_; rintro e w2 ⟨rfl, hk2, hh2⟩; have HK2 := hid hk2; have HH2 := hid hh2; clear hk2 hh2)
        go_roundw
        case rel => exact ⟨k + 1, by omega, by go_num, HK.out.trans HK2.out, HH2.out, hs', by rw [HFt.out]; exact HRs1.out.kp HK2.out (fun b e => by omega)⟩
        case measure => simp [intOf]; omega
      | true =>
        rw [hb2] at HRun
        rw [hb2, if_pos rfl] at HFt
        clear hb2
        have hlv : hs'.length ≤ 1000000 := by
          rw [HRs1.out.len]
          exact Nat.le_trans (List.length_filter_le _ _) (by rw [List.length_take]; omega)
        go_wp2_with (first
          | (go_at_call 79; refine HRun.out.mono ?_; rintro e w2 ⟨rfl, hk2, hh2⟩; have HK2 := hid hk2; have HH2 := hid hh2; have HR2 := hid (HRs1.out.kp hk2 (fun b e => by omega)); have HW2 := hid (rowIn_kpT HRw2.out hk2 (fun b hb e => by omega)); clear hk2 hh2)
          | (go_at_call 49; refine (TN.cloneV_any (HW2.out.imp (fun _ _ => trivial))).mono ?_; rintro e w3 ⟨v3, rfl, h3, hb3⟩; obtain ⟨p3, c3, rfl, -⟩ := id h3; have HR3 := hid (HR2.out.on hb3); have HX3 : Hid (TN.RowIn (fun b => w1.heap.size ≤ b ∧ b < w3.heap.size ∧ (Value.slice pv hs'.length cv').ownBlock ≠ some b) w3 (.slice p3 r.length c3) r) := ((tn_low h3 (fun x => ⟨_, rfl⟩)).imp (fun b hb => hb)) |> fun hlow => by { obtain ⟨p', cap', hv', hc', hm', hx'⟩ := h3; obtain ⟨p9, cap9, hv9, hc9, hm9, hx9⟩ := hlow; refine ⟨p', cap', hv', hc', hm', fun hne => ?_⟩; obtain ⟨b, o, hp, hQ, hj⟩ := hx' hne; obtain ⟨b9, o9, hp9, hQ9, -⟩ := hx9 hne; rw [hv'] at hv9; cases hv9; rw [hp] at hp9; cases hp9; exact ⟨b, o, hp, ⟨⟨by have := HK.out.size; have := HK2.out.size; omega, hQ9.1, fun e => by have := (HR2.out.own.at e).2; omega⟩, hQ.2⟩, hj⟩ }; have HB3 := hid hb3; clear h3 hb3)
          | (at_builtin; refine app_A elem_row (fun _ => rfl) (by intro y hy c hc; simp at hy; subst hy; simp [TN.one] at hc; subst hc; rfl) rfl _ _ rfl rfl (HR3.out.own.on ((Below.refl _ _).alloc (Nat.le_refl _) (.cells #[.slice p3 r.length c3] 33))) rfl (Own.sl (Own.blk (enc := TN.one) (k := 1) (e := 33) (B := w3.heap.size) (w := w3.alloc (.cells #[.slice p3 r.length c3] 33)) (xs := [.slice p3 r.length c3]) (fun _ => rfl) (Nat.le_refl _) (alloc_block w3 _) (by unfold maxLen; simp)) (fun _ => rfl)) (by simp) (by simp; omega) (by decide) (by have := HR3.out; have := HK.out.size; have := HK2.out.size; have := HB3.out.size; simp; omega) ?_; intro v5 w5 ho hg hat; have HR5 := hid ((HR3.out.on ((Below.refl _ _).alloc (Nat.le_refl _) (.cells #[.slice p3 r.length c3] 33))).app (r := r) ((HX3.out.on ((Below.refl _ _).alloc (Nat.le_refl _) (.cells #[.slice p3 r.length c3] 33))).imp (fun b hb => ⟨hb.1, by have := hb.2.1; simp; omega, hb.2.2⟩)) ho hg hat); have HK5 : Hid (Kp (fun b => (Value.slice pv hs'.length cv').ownBlock = some b) w2 w5) := (Kp.of (HB3.out.alloc HB3.out.size (.cells #[.slice p3 r.length c3] 33))).trans' (Kp.grown (T := fun b => (Value.slice pv hs'.length cv').ownBlock = some b) hg (fun b e => e)) (fun b hb e => e); clear ho hg hat))
        have hKf : Kp (fun b => b = hd) w1 w5 := (HK.out.trans HK2.out).trans' HK5.out (fun b hb e => by have := (HR2.out.own.at e).1; omega)
        obtain ⟨hb2, hH2, hl2⟩ := HH2.out
        have hHf : ∃ hb, Hd w5 hd hb ∧ hb.length = n + 1 := ⟨hb2, HK5.out.blk hH2 (fun e => by have := (HR2.out.own.at e).1; omega), hl2⟩
        refine ⟨⟨k + 1, by omega, by go_num, hKf, hHf, _, by rw [HFt.out]; exact HR5.out⟩, by simp [intOf]; omega⟩
    · have hkm' : k = m := by omega
      have kI : ¬ (k : Int) < m := by omega
      have yT : wr.heap[w.heap.size]? = some (.cells #[.slice pc cs.length cc, .slice pr hs.length cr] 28 (0, 0)) := HK.out.blk HT1.out (Nat.ne_of_lt (Nat.lt_of_lt_of_le (lt_of_block HT.out) HG1.out))
      have yO : wr.heap[w.heap.size + 1 + 1]? = some (.cells #[.slice none 0 0, .slice none 0 0] 28 (0, 0)) := HK.out.blk HO1.out (Nat.ne_of_lt (Nat.lt_of_lt_of_le (lt_of_block HO.out) HG1.out))
      have z0 : wr.cell? ⟨w.heap.size, 0, none⟩ = some (.slice pc cs.length cc) := block_cell yT 0
      have HOr := hid yO
      have hRf : Rws w1.heap.size wr (.slice pv hs'.length cv') hs' (rs.filter (holdsX cs qs n)) := by
        have := hRs
        rw [hkm', List.take_of_length_le (by have := HMm.out; have := HLn.out; omega)] at this
        exact this
      have HRf := hid hRf
      have HCr := hid ((HCo.out.on HBr.out).imp (fun _ _ => trivial) : TN.ColsAt wr (.slice pc cs.length cc) cs)
      clear hH hHl hRs yT yO HHd HRs hkm hRf
      go_wp2_with (go_at_call 50; refine (TN.cloneC_any HCr.out).mono ?_; rintro e w4 ⟨v4, rfl, h4, hb4⟩; obtain ⟨p4, c4, rfl, -⟩ := id h4; have HC4 := hid h4; have HB4 := hid hb4; have HR4 := hid (HRf.out.on hb4); have HO4 := hid (block_on HOr.out hb4); have y4 := block_cell HO4.out; have x4 := block_frozen HO4.out; clear h4 hb4)
      have hob : w.heap.size + 1 + 1 < w1.heap.size := by have := lt_of_block HO.out; omega
      have KF := block_set (block_set HO4.out 0 (.slice p4 cs.length c4)) 1 (.slice pv hs'.length cv')
      have hkf : Kp (fun b => b = w.heap.size + 1 + 1) w4 ((w4.setCell ⟨w.heap.size + 1 + 1, 0, none⟩ (.slice p4 cs.length c4)).setCell ⟨w.heap.size + 1 + 1, 1, none⟩ (.slice pv hs'.length cv')) := (Kp.set (T := fun b => b = w.heap.size + 1 + 1) rfl _).trans (Kp.set (T := fun b => b = w.heap.size + 1 + 1) rfl _)
      have hwr := HBr.out.size
      have hs4 := HB4.out.size
      have hw1 := HK.out.size
      have hC9 := tnSl_kp (TN.SlAt.low HC4.out (by decide) TN.cl_len) hkf (fun b hb (e : b = w.heap.size + 1 + 1) => by have := hb.1; omega)
      have hR9 := HR4.out.kp hkf (fun b (e : b = w.heap.size + 1 + 1) => by omega)
      have hBf : Below w.heap.size w ((w4.setCell ⟨w.heap.size + 1 + 1, 0, none⟩ (.slice p4 cs.length c4)).setCell ⟨w.heap.size + 1 + 1, 1, none⟩ (.slice pv hs'.length cv')) := (HBr.out.trans (HB4.out.mono hwr)).trans (hkf.below (by omega) (fun b (e : b = w.heap.size + 1 + 1) => by omega))
      have hsf := hkf.size
      clear y4 x4
      generalize ((w4.setCell ⟨w.heap.size + 1 + 1, 0, none⟩ (.slice p4 cs.length c4)).setCell ⟨w.heap.size + 1 + 1, 1, none⟩ (.slice pv hs'.length cv')) = WF at *
      refine bodyPost_ret (v := .agg #[.slice p4 cs.length c4, .slice pv hs'.length cv']) ?_ rfl ⟨_, _, hs', rfl, hC9.imp (fun b hb => ⟨by have := hb.1; omega, by have := hb.2; omega⟩), hR9.le (by omega), hBf⟩
      have kcf := block_cell KF
      clear KF
      simp [results, Try.results21, go_sem, kcf]
set_option maxRecDepth 100000 in
set_option maxHeartbeats 4000000 in
theorem where_out {n : Int} {nv cv rv : Value} {qs : List Nx} {cs : List TN.Cl} {rs : List TN.Rw} {hs : List Value} {w : World} (hq : Qx (fun b => b < w.heap.size) w nv qs) (hn : n < 0 ∨ (qs.length : Int) ≤ n) (hc : TN.ColsAt w cv cs) (hr : TN.SlAt TN.any TN.one 1 w rv hs) (hh : TN.HeadsIn TN.any w hs rs) (hrl : rs.length ≤ 1000000) : Calls Try.prog 21 #[.agg #[cv, rv], .agg #[nv], .int .i64 n] w (WhP' cs (rs.filter (holdsX cs qs n)) w) := by
  obtain ⟨pn, cn, rfl, -, -⟩ := hq.sl.form
  obtain ⟨pc, cc, hpc, -⟩ := id hc
  obtain ⟨pr, cr, hpr, -⟩ := id hr
  subst hpc hpr
  obtain ⟨W, hW⟩ : ∃ W, W = ((w.alloc (.cells #[.slice pc cs.length cc, .slice pr hs.length cr] 28)).alloc (.cells #[.slice pn qs.length cn] 24)).alloc (.cells #[.slice none 0 0, .slice none 0 0] 28) := ⟨_, rfl⟩
  have hb1 : Below w.heap.size w (w.alloc (.cells #[.slice pc cs.length cc, .slice pr hs.length cr] 28)) := (Below.refl _ _).alloc (Nat.le_refl _) _
  have hb2 : Below w.heap.size w W := by rw [hW]; exact (hb1.alloc hb1.size _).alloc (Nat.le_trans hb1.size (by simp)) _
  have hT : W.heap[w.heap.size]? = some (.cells #[.slice pc cs.length cc, .slice pr hs.length cr] 28 (0, 0)) := by
    rw [hW]
    exact block_on (block_on (alloc_block w _) ((Below.refl _ _).alloc (Nat.le_refl _) _)) ((Below.refl _ _).alloc (Nat.le_refl _) _)
  have hO : W.heap[w.heap.size + 1 + 1]? = some (.cells #[.slice none 0 0, .slice none 0 0] 28 (0, 0)) := by
    rw [hW]
    have := alloc_block ((w.alloc (.cells #[.slice pc cs.length cc, .slice pr hs.length cr] 28)).alloc (.cells #[.slice pn qs.length cn] 24)) (.cells #[.slice none 0 0, .slice none 0 0] 28)
    simpa using this
  have hN : W.heap[w.heap.size + 1]? = some (.cells #[.slice pn qs.length cn] 24 (0, 0)) := by
    rw [hW]
    have := alloc_block (w.alloc (.cells #[.slice pc cs.length cc, .slice pr hs.length cr] 28)) (.cells #[.slice pn qs.length cn] 24)
    exact block_on (by simpa using this) ((Below.refl _ _).alloc (Nat.le_refl _) _)
  have y0 : W.cell? ⟨w.heap.size, 0, none⟩ = some (.slice pc cs.length cc) := block_cell hT 0
  have y1 : W.cell? ⟨w.heap.size + 1, 0, none⟩ = some (.slice pn qs.length cn) := block_cell hN 0
  have HB := hid hb2
  have HCo := hid (tn_low hc (fun x => ⟨_, rfl⟩))
  have HRo := hid (tn_low hr (fun x => ⟨_, rfl⟩))
  have HRw : Hid (∀ (j : Nat) h r, hs[j]? = some h → rs[j]? = some r → TN.RowIn (fun b => b < w.heap.size) w h r) := fun j h r h1 h2 => row_lt (hh.2 j h r h1 h2)
  have HLn := hid hh.1
  have HN := hid (cnd_never (cv := .slice pc cs.length cc) (qx_lt hq hb2) hn)
  have HX : Hid (∀ r, holdsX cs qs n r = false) := fun r => holdsX_out hn
  have HRL := hid hrl
  have HT := hid hT
  have HO := hid hO
  have HW := hid hW
  have hbs := hb2.size
  clear hq hn hc hr hh hb1 hb2 hT hO hN hW
  go_enter Try.func21, Try.ntmps21
  go_upto_region 1 with fail
  rw [← HW.out]
  clear HW
  go_upto_region 3 with (go_at_call 46; refine HN.out.mono ?_; rintro e w1 ⟨rfl, hb⟩; have HBc := hid hb; clear hb)
  have HT1 := hid (block_on HT.out HBc.out)
  have HO1 := hid (block_on HO.out HBc.out)
  have HB1 : Hid (Below w.heap.size w w1) := HB.out.trans (HBc.out.mono hbs)
  have hbc := HBc.out.size
  have y2 : w1.cell? ⟨w.heap.size, 1, none⟩ = some (.slice pr hs.length cr) := block_cell HT1.out 1
  obtain ⟨m, hm⟩ : ∃ m, hs.length = m := ⟨_, rfl⟩
  have HMm := hid hm
  have hml : m ≤ 1000000 := by have := HLn.out; have := HRL.out; omega
  rw [hm] at y2
  have HRo2 : Hid (TN.SlAt (fun b => b < w.heap.size) TN.one 1 w (.slice pr m cr) hs) := by rw [← hm]; exact HRo.out
  have mI : (m : Int) ≤ 1000000 := by omega
  clear HRo hm
  go_upto_region 4 with fail
  go_loopw [20, 8] (fun x v wr => ∃ k : Nat, k ≤ m ∧ x = .int .i64 k ∧ v = .slice none 0 0 ∧ Hid (wr = w1)) (fun x _ _ => m - (intOf x).toNat)
  case atStart => exact ⟨0, by omega, rfl, rfl, rfl⟩
  case round =>
    obtain ⟨k, hk, rfl, rfl, HK⟩ := hrel
    have hwr : wr = w1 := HK.out
    subst hwr
    have HBr := HB1
    by_cases hkm : k < m
    · have kI : (k : Int) < m := by omega
      have k0 : (0 : Int) ≤ k := by omega
      obtain ⟨h, hh⟩ : ∃ h, hs[k]? = some h := ⟨_, List.getElem?_eq_getElem (by have := HMm.out; omega)⟩
      obtain ⟨r, hrr⟩ : ∃ r, rs[k]? = some r := ⟨_, List.getElem?_eq_getElem (by have := HMm.out; have := HLn.out; omega)⟩
      have hrow := HRw.out k h r hh hrr
      obtain ⟨bh, oh, cellh⟩ : ∃ b o, pr = some ⟨b, o, none⟩ ∧ wr.cell? ⟨b, o + k, none⟩ = some h := by
        obtain ⟨p', c', e', -, -, hx⟩ := HRo2.out.on HBr.out
        cases e'
        obtain ⟨b, o, hp, -, hj⟩ := hx (by intro e; rw [e] at hh; simp at hh)
        exact ⟨b, o, hp, by have := hj k h hh 0 h rfl; simpa using this⟩
      obtain ⟨rfl, yh⟩ := cellh
      obtain ⟨ph, ch, eh, -⟩ := id hrow
      subst eh
      clear hrow hrr hh
      go_wp2_with (go_at_call 75; refine (never_any _ _).mono ?_; rintro e w2 ⟨rfl, he⟩; replace he := he.symm; subst he)
      go_roundw
      case rel => first | exact ⟨k + 1, by omega, by go_num, rfl, HK.out⟩ | exact ⟨k + 1, by omega, by go_num, HK.out⟩
      case measure => simp [intOf]; omega
    · have kI : ¬ (k : Int) < m := by omega
      have yT : wr.heap[w.heap.size]? = some (.cells #[.slice pc cs.length cc, .slice pr hs.length cr] 28 (0, 0)) := HT1.out
      have yO : wr.heap[w.heap.size + 1 + 1]? = some (.cells #[.slice none 0 0, .slice none 0 0] 28 (0, 0)) := HO1.out
      have z0 : wr.cell? ⟨w.heap.size, 0, none⟩ = some (.slice pc cs.length cc) := block_cell yT 0
      have HOr := hid yO
      have hRf : Rws wr.heap.size wr (.slice none 0 0) [] (rs.filter (holdsX cs qs n)) := by
        have : rs.filter (holdsX cs qs n) = [] := List.filter_eq_nil_iff.2 (fun r _ => by rw [HX.out r]; decide)
        rw [this]; exact Rws.nil _ _
      have HRf := hid hRf
      have HCr := hid ((HCo.out.on HBr.out).imp (fun _ _ => trivial) : TN.ColsAt wr (.slice pc cs.length cc) cs)
      clear yT yO hkm hRf
      go_wp2_with (go_at_call 50; refine (TN.cloneC_any HCr.out).mono ?_; rintro e w4 ⟨v4, rfl, h4, hb4⟩; obtain ⟨p4, c4, rfl, -⟩ := id h4; have HC4 := hid h4; have HB4 := hid hb4; have HR4 := hid (HRf.out.on hb4); have HO4 := hid (block_on HOr.out hb4); have y4 := block_cell HO4.out; have x4 := block_frozen HO4.out; clear h4 hb4)
      have hob : w.heap.size + 1 + 1 < wr.heap.size := by have h1 := lt_of_block HO.out; have h2 := HBc.out.size; omega
      have KF := block_set (block_set HO4.out 0 (.slice p4 cs.length c4)) 1 (.slice none 0 0)
      have hkf : Kp (fun b => b = w.heap.size + 1 + 1) w4 ((w4.setCell ⟨w.heap.size + 1 + 1, 0, none⟩ (.slice p4 cs.length c4)).setCell ⟨w.heap.size + 1 + 1, 1, none⟩ (.slice none 0 0)) := (Kp.set (T := fun b => b = w.heap.size + 1 + 1) rfl _).trans (Kp.set (T := fun b => b = w.heap.size + 1 + 1) rfl _)
      have hwr2 := HBr.out.size
      have hs4 := HB4.out.size
      have hC9 := tnSl_kp (TN.SlAt.low HC4.out (by decide) TN.cl_len) hkf (fun b hb (e : b = w.heap.size + 1 + 1) => by have := hb.1; omega)
      have hR9 := HR4.out.kp hkf (fun b (e : b = w.heap.size + 1 + 1) => by omega)
      have hBf : Below w.heap.size w ((w4.setCell ⟨w.heap.size + 1 + 1, 0, none⟩ (.slice p4 cs.length c4)).setCell ⟨w.heap.size + 1 + 1, 1, none⟩ (.slice none 0 0)) := (HBr.out.trans (HB4.out.mono hwr2)).trans (hkf.below (by omega) (fun b (e : b = w.heap.size + 1 + 1) => by omega))
      have hsf := hkf.size
      clear y4 x4
      generalize ((w4.setCell ⟨w.heap.size + 1 + 1, 0, none⟩ (.slice p4 cs.length c4)).setCell ⟨w.heap.size + 1 + 1, 1, none⟩ (.slice none 0 0)) = WF at *
      refine bodyPost_ret (v := .agg #[.slice p4 cs.length c4, .slice none 0 0]) ?_ rfl ⟨_, _, [], rfl, hC9.imp (fun b hb => ⟨by have := hb.1; omega, by have := hb.2; omega⟩), hR9.le (by omega), hBf⟩
      have kcf := block_cell KF
      clear KF
      simp [results, Try.results21, go_sem, kcf]
theorem where_any {i : Int} {nv cv rv : Value} {qs : List Nx} {cs : List TN.Cl} {rs : List TN.Rw} {hs : List Value} {w : World} (hq : Qx (fun b => b < w.heap.size) w nv qs) (hl : qs.length ≤ 1000) (hc : TN.ColsAt w cv cs) (hr : TN.SlAt TN.any TN.one 1 w rv hs) (hh : TN.HeadsIn TN.any w hs rs) (hM : Mx w) (hz : ∀ q ∈ qs, q.np.kind = 15 → ∀ r ∈ rs, Rsz r) (hrl : rs.length ≤ 1000000) : Calls Try.prog 21 #[.agg #[cv, rv], .agg #[nv], .int .i64 i] w (WhP' cs (rs.filter (holdsX cs qs i)) w) := by
  by_cases hi : i < 0 ∨ (qs.length : Int) ≤ i
  · exact where_out hq hi hc hr hh hrl
  · obtain ⟨n, rfl⟩ : ∃ n : Nat, i = n := ⟨i.toNat, by omega⟩
    exact where_in hq (by omega) hl hc hr hh hM hz hrl
end Go.Proofs.Ytcidijjbcebcbaa.PD
