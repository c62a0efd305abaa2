/-
  Package pred's Where.
  The reference's reader: a test, as mathematics.
  The reference's reader: a test.
-/
import Derived.Test.YtjekpclbedbaoaaKS11
import Derived.Test.YtjekpclbedbaoaaKS14
import Derived.Test.YtjekpclbedbaoaaKS20
import Derived.Test.YtjekpclbedbaoaaKS21
namespace Go.Proofs.Ytjekpclbedbaoaa.PD
open Go.RowKit Go.Joins

theorem tn_low {α : Type} {Q : Nat → Prop} {enc : α → List Value} {k : Nat} {w : World} {v : Value} {xs : List α} (h : TN.SlAt Q enc k w v xs) (he : ∀ x, ∃ u, (enc x)[0]? = some u) : TN.SlAt (fun b => b < w.heap.size) enc k w v xs := by
  obtain ⟨p, cap, hv, hc, hm, hx⟩ := h
  refine ⟨p, cap, hv, hc, hm, fun hne => ?_⟩
  obtain ⟨b, o, hp, hQ, hj⟩ := hx hne
  refine ⟨b, o, hp, ⟨?_, hQ.2⟩, hj⟩
  match xs, hne with
  | x :: r, _ =>
    obtain ⟨u, hu⟩ := he x
    exact block_lt_of_cell (hj 0 x rfl 0 u hu)
theorem filt_take {α : Type} {f : α → Bool} {l : List α} {k : Nat} {x : α} (h : l[k]? = some x) : (l.take (k + 1)).filter f = if f x = true then (l.take k).filter f ++ [x] else (l.take k).filter f := by
  rw [List.take_add_one, h, List.filter_append]
  by_cases e : f x = true
  · rw [if_pos e]; simp [e]
  · rw [if_neg e]; simp [e]
def WhP' (cs : List TN.Cl) (rs : List TN.Rw) (w : World) (x : Ending) (w' : World) : Prop := ∃ cv rv hs, x = .returned (.agg #[cv, rv]) ∧ TN.SlAt (fun b => w.heap.size ≤ b ∧ b < w'.heap.size) TN.Cl.cells 2 w' cv cs ∧ Rws w.heap.size w' rv hs rs ∧ Below w.heap.size w w'
set_option maxRecDepth 100000 in
set_option maxHeartbeats 4000000 in
theorem where_in {n : Nat} {nv cv rv : Value} {qs : List Nx} {cs : List TN.Cl} {rs : List TN.Rw} {hs : List Value} {w : World} (hq : Qx (fun b => b < w.heap.size) w nv qs) (hn : n < qs.length) (hl : qs.length ≤ 1000) (hc : TN.ColsAt w cv cs) (hr : TN.SlAt TN.any TN.one 1 w rv hs) (hh : TN.HeadsIn TN.any w hs rs) (hM : Mx w) (hz : ∀ q ∈ qs, q.np.kind = 15 → ∀ r ∈ rs, Rsz r) (hrl : rs.length ≤ 1000000) : Calls Try.prog 14 #[.agg #[cv, rv], .agg #[nv], .int .i64 (n : Int)] w (WhP' cs (rs.filter (holdsX cs qs n)) w) := by
  obtain ⟨pn, cn, rfl, -, -⟩ := hq.sl.form
  obtain ⟨pc, cc, hpc, -⟩ := id hc
  obtain ⟨pr, cr, hpr, -⟩ := id hr
  subst hpc hpr
  obtain ⟨W, hW⟩ : ∃ W, W = ((w.alloc (.cells #[.slice pc cs.length cc, .slice pr hs.length cr] 25)).alloc (.cells #[.slice pn qs.length cn] 34)).alloc (.cells #[.slice none 0 0, .slice none 0 0] 25) := ⟨_, rfl⟩
  have hb1 : Below w.heap.size w (w.alloc (.cells #[.slice pc cs.length cc, .slice pr hs.length cr] 25)) := (Below.refl _ _).alloc (Nat.le_refl _) _
  have hb2 : Below w.heap.size w W := by rw [hW]; exact (hb1.alloc hb1.size _).alloc (Nat.le_trans hb1.size (by simp)) _
  have hT : W.heap[w.heap.size]? = some (.cells #[.slice pc cs.length cc, .slice pr hs.length cr] 25 (0, 0)) := by
    rw [hW]
    exact block_on (block_on (alloc_block w _) ((Below.refl _ _).alloc (Nat.le_refl _) _)) ((Below.refl _ _).alloc (Nat.le_refl _) _)
  have hO : W.heap[w.heap.size + 1 + 1]? = some (.cells #[.slice none 0 0, .slice none 0 0] 25 (0, 0)) := by
    rw [hW]
    have := alloc_block ((w.alloc (.cells #[.slice pc cs.length cc, .slice pr hs.length cr] 25)).alloc (.cells #[.slice pn qs.length cn] 34)) (.cells #[.slice none 0 0, .slice none 0 0] 25)
    simpa using this
  have hN : W.heap[w.heap.size + 1]? = some (.cells #[.slice pn qs.length cn] 34 (0, 0)) := by
    rw [hW]
    have := alloc_block (w.alloc (.cells #[.slice pc cs.length cc, .slice pr hs.length cr] 25)) (.cells #[.slice pn qs.length cn] 34)
    exact block_on (by simpa using this) ((Below.refl _ _).alloc (Nat.le_refl _) _)
  have y0 : W.cell? ⟨w.heap.size, 0, none⟩ = some (.slice pc cs.length cc) := block_cell hT 0
  have y1 : W.cell? ⟨w.heap.size + 1, 0, none⟩ = some (.slice pn qs.length cn) := block_cell hN 0
  have HB := hid hb2
  have HCo := hid (tn_low hc (fun x => ⟨_, rfl⟩))
  have HRo := hid (tn_low hr (fun x => ⟨_, rfl⟩))
  have HRw : Hid (∀ (j : Nat) h r, hs[j]? = some h → rs[j]? = some r → TN.RowIn (fun b => b < w.heap.size) w h r) := fun j h r h1 h2 => row_lt (hh.2 j h r h1 h2)
  have HLn := hid hh.1
  have HN := hid (cnd_make (i := n) (qx_lt hq hb2) hn (by omega) (hc.on hb2))
  have HM := hid (hM.on hb2)
  have HP := hid (mx_pos hM)
  have HZ := hid hz
  have HRL := hid hrl
  have HT := hid hT
  have HO := hid hO
  have HW := hid hW
  have hbs := hb2.size
  clear hq hn hl hc hr hh hM hz hb1 hb2 hT hO hN hW
  go_enter Try.func14, Try.ntmps14
  go_upto_region 1 with fail
  rw [← HW.out]
  clear HW
  go_upto_region 3 with (go_at_call 32; refine HN.out.mono ?_; rintro e w1 ⟨hd, hvb, sb, ib, sg, sc, svs, ls, hs0, rfl, g1, g2, g3, g4, hb⟩; have HC1 := hid g1; have HD1 := hid g2; have HDl := hid g3; have HG1 := hid g4; have HBc := hid hb; clear g1 g2 g3 g4 hb)
  have HT1 := hid (block_on HT.out HBc.out)
  have HO1 := hid (block_on HO.out HBc.out)
  have HB1 : Hid (Below w.heap.size w w1) := HB.out.trans (HBc.out.mono hbs)
  have HM1 := hid (HM.out.on HBc.out)
  have hbc := HBc.out.size
  have y2 : w1.cell? ⟨w.heap.size, 1, none⟩ = some (.slice pr hs.length cr) := block_cell HT1.out 1
  obtain ⟨m, hm⟩ : ∃ m, hs.length = m := ⟨_, rfl⟩
  have HMm := hid hm
  have hml : m ≤ 1000000 := by have := HLn.out; have := HRL.out; omega
  rw [hm] at y2
  have HRo2 : Hid (TN.SlAt (fun b => b < w.heap.size) TN.one 1 w (.slice pr m cr) hs) := by rw [← hm]; exact HRo.out
  have mI : (m : Int) ≤ 1000000 := by omega
  clear HRo hm
  go_upto_region 4 with fail
  have HKb : Hid (∀ wr, Kp (fun b => b = hd) w1 wr → Below w.heap.size w wr) := fun wr hk => HB1.out.trans (hk.below (by omega) (fun b e => by have := HG1.out; omega))
  go_loopw [20, 8] (fun x v wr => ∃ k : Nat, k ≤ m ∧ x = .int .i64 k ∧ Hid (Kp (fun b => b = hd) w1 wr) ∧ Hid (∃ hb, Hd wr hd hb ∧ hb.length = n + 1) ∧ Hid (∃ hs', Rws w1.heap.size wr v hs' ((rs.take k).filter (holdsX cs qs n)))) (fun x _ _ => m - (intOf x).toNat)
  case atStart => exact ⟨0, by omega, rfl, Kp.refl _ _, ⟨hs0, HD1.out, HDl.out⟩, [], Rws.nil _ _⟩
  case round =>
    obtain ⟨k, hk, rfl, HK, HHd, HRs⟩ := hrel
    obtain ⟨hb, hH, hHl⟩ := HHd.out
    obtain ⟨hs', hRs⟩ := HRs.out
    obtain ⟨pv, cv', rfl⟩ := hRs.own.form
    have HBr := hid (HKb.out wr HK.out)
    have hd1 : hd < w1.heap.size := lt_of_block HD1.out
    have hgd := HG1.out
    by_cases hkm : k < m
    · have kI : (k : Int) < m := by omega
      have k0 : (0 : Int) ≤ k := by omega
      obtain ⟨h, hh⟩ : ∃ h, hs[k]? = some h := ⟨_, List.getElem?_eq_getElem (by have := HMm.out; omega)⟩
      obtain ⟨r, hrr⟩ : ∃ r, rs[k]? = some r := ⟨_, List.getElem?_eq_getElem (by have := HMm.out; have := HLn.out; omega)⟩
      have hrow := HRw.out k h r hh hrr
      obtain ⟨bh, oh, cellh⟩ : ∃ b o, pr = some ⟨b, o, none⟩ ∧ wr.cell? ⟨b, o + k, none⟩ = some h := by
        obtain ⟨p', c', e', -, -, hx⟩ := HRo2.out.on HBr.out
        cases e'
        obtain ⟨b, o, hp, -, hj⟩ := hx (by intro e; rw [e] at hh; simp at hh)
        exact ⟨b, o, hp, by have := hj k h hh 0 h rfl; simpa using this⟩
      obtain ⟨rfl, yh⟩ := cellh
      have hrr2 : TN.RowIn (fun b => b < w.heap.size) wr h r := hrow.on HBr.out
      obtain ⟨ph, ch, eh, -⟩ := id hrr2
      subst eh
      have HRun := hid (cond_run (HC1.out.kp HK.out HD1.out) hH hHl (hrr2.imp (fun b hb => by omega)) (mx_kp HM1.out HK.out (by have := HP.out; omega)) (by have := HP.out; omega) (fun q hq hk => HZ.out q hq hk r (List.mem_of_getElem? hrr)))
      have HX := hid hrr
      have HRs1 := hid hRs
      have HRw2 := hid hrr2
      have HFt := hid (filt_take (f := holdsX cs qs n) hrr)
      clear hH hHl hRs hrow hrr hh hrr2 HHd HRs
      cases hb2 : holdsX cs qs n r with
      | false =>
        rw [hb2] at HRun
        rw [hb2, if_neg (by decide)] at HFt
        clear hb2
        go_wp2_with (go_at_call 62; refine HRun.out.mono ?_; rintro e w2 ⟨rfl, hk2, hh2⟩; have HK2 := hid hk2; have HH2 := hid hh2; clear hk2 hh2)
        go_roundw
        case rel => exact ⟨k + 1, by omega, by go_num, HK.out.trans HK2.out, HH2.out, hs', by rw [HFt.out]; exact HRs1.out.kp HK2.out (fun b e => by omega)⟩
        case measure => simp [intOf]; omega
      | true =>
        rw [hb2] at HRun
        rw [hb2, if_pos rfl] at HFt
        clear hb2
        have hlv : hs'.length ≤ 1000000 := by
          rw [HRs1.out.len]
          exact Nat.le_trans (List.length_filter_le _ _) (by rw [List.length_take]; omega)
        go_wp2_with (first
          | (go_at_call 62; refine HRun.out.mono ?_; rintro e w2 ⟨rfl, hk2, hh2⟩; have HK2 := hid hk2; have HH2 := hid hh2; have HR2 := hid (HRs1.out.kp hk2 (fun b e => by omega)); have HW2 := hid (rowIn_kpT HRw2.out hk2 (fun b hb e => by omega)); clear hk2 hh2)
          | (go_at_call 33; refine (TN.cloneV_any (HW2.out.imp (fun _ _ => trivial))).mono ?_; rintro e w3 ⟨v3, rfl, h3, hb3⟩; obtain ⟨p3, c3, rfl, -⟩ := id h3; have HR3 := hid (HR2.out.on hb3); have HX3 : Hid (TN.RowIn (fun b => w1.heap.size ≤ b ∧ b < w3.heap.size ∧ (Value.slice pv hs'.length cv').ownBlock ≠ some b) w3 (.slice p3 r.length c3) r) := ((tn_low h3 (fun x => ⟨_, rfl⟩)).imp (fun b hb => hb)) |> fun hlow => by { obtain ⟨p', cap', hv', hc', hm', hx'⟩ := h3; obtain ⟨p9, cap9, hv9, hc9, hm9, hx9⟩ := hlow; refine ⟨p', cap', hv', hc', hm', fun hne => ?_⟩; obtain ⟨b, o, hp, hQ, hj⟩ := hx' hne; obtain ⟨b9, o9, hp9, hQ9, -⟩ := hx9 hne; rw [hv'] at hv9; cases hv9; rw [hp] at hp9; cases hp9; exact ⟨b, o, hp, ⟨⟨by have := HK.out.size; have := HK2.out.size; omega, hQ9.1, fun e => by have := (HR2.out.own.at e).2; omega⟩, hQ.2⟩, hj⟩ }; have HB3 := hid hb3; clear h3 hb3)
          | (at_builtin; refine app_A elem_row (fun _ => rfl) (by intro y hy c hc; simp at hy; subst hy; simp [TN.one] at hc; subst hc; rfl) rfl _ _ rfl rfl (HR3.out.own.on ((Below.refl _ _).alloc (Nat.le_refl _) (.cells #[.slice p3 r.length c3] 48))) rfl (Own.sl (Own.blk (enc := TN.one) (k := 1) (e := 48) (B := w3.heap.size) (w := w3.alloc (.cells #[.slice p3 r.length c3] 48)) (xs := [.slice p3 r.length c3]) (fun _ => rfl) (Nat.le_refl _) (alloc_block w3 _) (by unfold maxLen; simp)) (fun _ => rfl)) (by simp) (by simp; omega) (by decide) (by have := HR3.out; have := HK.out.size; have := HK2.out.size; have := HB3.out.size; simp; omega) ?_; intro v5 w5 ho hg hat; have HR5 := hid ((HR3.out.on ((Below.refl _ _).alloc (Nat.le_refl _) (.cells #[.slice p3 r.length c3] 48))).app (r := r) ((HX3.out.on ((Below.refl _ _).alloc (Nat.le_refl _) (.cells #[.slice p3 r.length c3] 48))).imp (fun b hb => ⟨hb.1, by have := hb.2.1; simp; omega, hb.2.2⟩)) ho hg hat); have HK5 : Hid (Kp (fun b => (Value.slice pv hs'.length cv').ownBlock = some b) w2 w5) := (Kp.of (HB3.out.alloc HB3.out.size (.cells #[.slice p3 r.length c3] 48))).trans' (Kp.grown (T := fun b => (Value.slice pv hs'.length cv').ownBlock = some b) hg (fun b e => e)) (fun b hb e => e); clear ho hg hat))
        have hKf : Kp (fun b => b = hd) w1 w5 := (HK.out.trans HK2.out).trans' HK5.out (fun b hb e => by have := (HR2.out.own.at e).1; omega)
        obtain ⟨hb2, hH2, hl2⟩ := HH2.out
        have hHf : ∃ hb, Hd w5 hd hb ∧ hb.length = n + 1 := ⟨hb2, HK5.out.blk hH2 (fun e => by have := (HR2.out.own.at e).1; omega), hl2⟩
        refine ⟨⟨k + 1, by omega, by go_num, hKf, hHf, _, by rw [HFt.out]; exact HR5.out⟩, by simp [intOf]; omega⟩
    · have hkm' : k = m := by omega
      have kI : ¬ (k : Int) < m := by omega
      have yT : wr.heap[w.heap.size]? = some (.cells #[.slice pc cs.length cc, .slice pr hs.length cr] 25 (0, 0)) := HK.out.blk HT1.out (Nat.ne_of_lt (Nat.lt_of_lt_of_le (lt_of_block HT.out) HG1.out))
      have yO : wr.heap[w.heap.size + 1 + 1]? = some (.cells #[.slice none 0 0, .slice none 0 0] 25 (0, 0)) := HK.out.blk HO1.out (Nat.ne_of_lt (Nat.lt_of_lt_of_le (lt_of_block HO.out) HG1.out))
      have z0 : wr.cell? ⟨w.heap.size, 0, none⟩ = some (.slice pc cs.length cc) := block_cell yT 0
      have HOr := hid yO
      have hRf : Rws w1.heap.size wr (.slice pv hs'.length cv') hs' (rs.filter (holdsX cs qs n)) := by
        have := hRs
        rw [hkm', List.take_of_length_le (by have := HMm.out; have := HLn.out; omega)] at this
        exact this
      have HRf := hid hRf
      have HCr := hid ((HCo.out.on HBr.out).imp (fun _ _ => trivial) : TN.ColsAt wr (.slice pc cs.length cc) cs)
      clear hH hHl hRs yT yO HHd HRs hkm hRf
      go_wp2_with (go_at_call 34; refine (TN.cloneC_any HCr.out).mono ?_; rintro e w4 ⟨v4, rfl, h4, hb4⟩; obtain ⟨p4, c4, rfl, -⟩ := id h4; have HC4 := hid h4; have HB4 := hid hb4; have HR4 := hid (HRf.out.on hb4); have HO4 := hid (block_on HOr.out hb4); have y4 := block_cell HO4.out; have x4 := block_frozen HO4.out; clear h4 hb4)
      have hob : w.heap.size + 1 + 1 < w1.heap.size := by have := lt_of_block HO.out; omega
      have KF := block_set (block_set HO4.out 0 (.slice p4 cs.length c4)) 1 (.slice pv hs'.length cv')
      have hkf : Kp (fun b => b = w.heap.size + 1 + 1) w4 ((w4.setCell ⟨w.heap.size + 1 + 1, 0, none⟩ (.slice p4 cs.length c4)).setCell ⟨w.heap.size + 1 + 1, 1, none⟩ (.slice pv hs'.length cv')) := (Kp.set (T := fun b => b = w.heap.size + 1 + 1) rfl _).trans (Kp.set (T := fun b => b = w.heap.size + 1 + 1) rfl _)
      have hwr := HBr.out.size
      have hs4 := HB4.out.size
      have hw1 := HK.out.size
      have hC9 := tnSl_kp (TN.SlAt.low HC4.out (by decide) TN.cl_len) hkf (fun b hb (e : b = w.heap.size + 1 + 1) => by have := hb.1; omega)
      have hR9 := HR4.out.kp hkf (fun b (e : b = w.heap.size + 1 + 1) => by omega)
      have hBf : Below w.heap.size w ((w4.setCell ⟨w.heap.size + 1 + 1, 0, none⟩ (.slice p4 cs.length c4)).setCell ⟨w.heap.size + 1 + 1, 1, none⟩ (.slice pv hs'.length cv')) := (HBr.out.trans (HB4.out.mono hwr)).trans (hkf.below (by omega) (fun b (e : b = w.heap.size + 1 + 1) => by omega))
      have hsf := hkf.size
      clear y4 x4
      generalize ((w4.setCell ⟨w.heap.size + 1 + 1, 0, none⟩ (.slice p4 cs.length c4)).setCell ⟨w.heap.size + 1 + 1, 1, none⟩ (.slice pv hs'.length cv')) = WF at *
      refine bodyPost_ret (v := .agg #[.slice p4 cs.length c4, .slice pv hs'.length cv']) ?_ rfl ⟨_, _, hs', rfl, hC9.imp (fun b hb => ⟨by have := hb.1; omega, by have := hb.2; omega⟩), hR9.le (by omega), hBf⟩
      have kcf := block_cell KF
      clear KF
      simp [results, Try.results14, go_sem, kcf]
set_option maxRecDepth 100000 in
set_option maxHeartbeats 4000000 in
theorem where_out {n : Int} {nv cv rv : Value} {qs : List Nx} {cs : List TN.Cl} {rs : List TN.Rw} {hs : List Value} {w : World} (hq : Qx (fun b => b < w.heap.size) w nv qs) (hn : n < 0 ∨ (qs.length : Int) ≤ n) (hc : TN.ColsAt w cv cs) (hr : TN.SlAt TN.any TN.one 1 w rv hs) (hh : TN.HeadsIn TN.any w hs rs) (hrl : rs.length ≤ 1000000) : Calls Try.prog 14 #[.agg #[cv, rv], .agg #[nv], .int .i64 n] w (WhP' cs (rs.filter (holdsX cs qs n)) w) := by
  obtain ⟨pn, cn, rfl, -, -⟩ := hq.sl.form
  obtain ⟨pc, cc, hpc, -⟩ := id hc
  obtain ⟨pr, cr, hpr, -⟩ := id hr
  subst hpc hpr
  obtain ⟨W, hW⟩ : ∃ W, W = ((w.alloc (.cells #[.slice pc cs.length cc, .slice pr hs.length cr] 25)).alloc (.cells #[.slice pn qs.length cn] 34)).alloc (.cells #[.slice none 0 0, .slice none 0 0] 25) := ⟨_, rfl⟩
  have hb1 : Below w.heap.size w (w.alloc (.cells #[.slice pc cs.length cc, .slice pr hs.length cr] 25)) := (Below.refl _ _).alloc (Nat.le_refl _) _
  have hb2 : Below w.heap.size w W := by rw [hW]; exact (hb1.alloc hb1.size _).alloc (Nat.le_trans hb1.size (by simp)) _
  have hT : W.heap[w.heap.size]? = some (.cells #[.slice pc cs.length cc, .slice pr hs.length cr] 25 (0, 0)) := by
    rw [hW]
    exact block_on (block_on (alloc_block w _) ((Below.refl _ _).alloc (Nat.le_refl _) _)) ((Below.refl _ _).alloc (Nat.le_refl _) _)
  have hO : W.heap[w.heap.size + 1 + 1]? = some (.cells #[.slice none 0 0, .slice none 0 0] 25 (0, 0)) := by
    rw [hW]
    have := alloc_block ((w.alloc (.cells #[.slice pc cs.length cc, .slice pr hs.length cr] 25)).alloc (.cells #[.slice pn qs.length cn] 34)) (.cells #[.slice none 0 0, .slice none 0 0] 25)
    simpa using this
  have hN : W.heap[w.heap.size + 1]? = some (.cells #[.slice pn qs.length cn] 34 (0, 0)) := by
    rw [hW]
    have := alloc_block (w.alloc (.cells #[.slice pc cs.length cc, .slice pr hs.length cr] 25)) (.cells #[.slice pn qs.length cn] 34)
    exact block_on (by simpa using this) ((Below.refl _ _).alloc (Nat.le_refl _) _)
  have y0 : W.cell? ⟨w.heap.size, 0, none⟩ = some (.slice pc cs.length cc) := block_cell hT 0
  have y1 : W.cell? ⟨w.heap.size + 1, 0, none⟩ = some (.slice pn qs.length cn) := block_cell hN 0
  have HB := hid hb2
  have HCo := hid (tn_low hc (fun x => ⟨_, rfl⟩))
  have HRo := hid (tn_low hr (fun x => ⟨_, rfl⟩))
  have HRw : Hid (∀ (j : Nat) h r, hs[j]? = some h → rs[j]? = some r → TN.RowIn (fun b => b < w.heap.size) w h r) := fun j h r h1 h2 => row_lt (hh.2 j h r h1 h2)
  have HLn := hid hh.1
  have HN := hid (cnd_never (cv := .slice pc cs.length cc) (qx_lt hq hb2) hn)
  have HX : Hid (∀ r, holdsX cs qs n r = false) := fun r => holdsX_out hn
  have HRL := hid hrl
  have HT := hid hT
  have HO := hid hO
  have HW := hid hW
  have hbs := hb2.size
  clear hq hn hc hr hh hb1 hb2 hT hO hN hW
  go_enter Try.func14, Try.ntmps14
  go_upto_region 1 with fail
  rw [← HW.out]
  clear HW
  go_upto_region 3 with (go_at_call 32; refine HN.out.mono ?_; rintro e w1 ⟨rfl, hb⟩; have HBc := hid hb; clear hb)
  have HT1 := hid (block_on HT.out HBc.out)
  have HO1 := hid (block_on HO.out HBc.out)
  have HB1 : Hid (Below w.heap.size w w1) := HB.out.trans (HBc.out.mono hbs)
  have hbc := HBc.out.size
  have y2 : w1.cell? ⟨w.heap.size, 1, none⟩ = some (.slice pr hs.length cr) := block_cell HT1.out 1
  obtain ⟨m, hm⟩ : ∃ m, hs.length = m := ⟨_, rfl⟩
  have HMm := hid hm
  have hml : m ≤ 1000000 := by have := HLn.out; have := HRL.out; omega
  rw [hm] at y2
  have HRo2 : Hid (TN.SlAt (fun b => b < w.heap.size) TN.one 1 w (.slice pr m cr) hs) := by rw [← hm]; exact HRo.out
  have mI : (m : Int) ≤ 1000000 := by omega
  clear HRo hm
  go_upto_region 4 with fail
  go_loopw [20, 8] (fun x v wr => ∃ k : Nat, k ≤ m ∧ x = .int .i64 k ∧ v = .slice none 0 0 ∧ Hid (wr = w1)) (fun x _ _ => m - (intOf x).toNat)
  case atStart => exact ⟨0, by omega, rfl, rfl, rfl⟩
  case round =>
    obtain ⟨k, hk, rfl, rfl, HK⟩ := hrel
    have hwr : wr = w1 := HK.out
    subst hwr
    have HBr := HB1
    by_cases hkm : k < m
    · have kI : (k : Int) < m := by omega
      have k0 : (0 : Int) ≤ k := by omega
      obtain ⟨h, hh⟩ : ∃ h, hs[k]? = some h := ⟨_, List.getElem?_eq_getElem (by have := HMm.out; omega)⟩
      obtain ⟨r, hrr⟩ : ∃ r, rs[k]? = some r := ⟨_, List.getElem?_eq_getElem (by have := HMm.out; have := HLn.out; omega)⟩
      have hrow := HRw.out k h r hh hrr
      obtain ⟨bh, oh, cellh⟩ : ∃ b o, pr = some ⟨b, o, none⟩ ∧ wr.cell? ⟨b, o + k, none⟩ = some h := by
        obtain ⟨p', c', e', -, -, hx⟩ := HRo2.out.on HBr.out
        cases e'
        obtain ⟨b, o, hp, -, hj⟩ := hx (by intro e; rw [e] at hh; simp at hh)
        exact ⟨b, o, hp, by have := hj k h hh 0 h rfl; simpa using this⟩
      obtain ⟨rfl, yh⟩ := cellh
      obtain ⟨ph, ch, eh, -⟩ := id hrow
      subst eh
      clear hrow hrr hh
      go_wp2_with (go_at_call 58; refine (never_any _ _).mono ?_; rintro e w2 ⟨rfl, he⟩; replace he := he.symm; subst he)
      go_roundw
      case rel => first | exact ⟨k + 1, by omega, by go_num, rfl, HK.out⟩ | exact ⟨k + 1, by omega, by go_num, HK.out⟩
      case measure => simp [intOf]; omega
    · have kI : ¬ (k : Int) < m := by omega
      have yT : wr.heap[w.heap.size]? = some (.cells #[.slice pc cs.length cc, .slice pr hs.length cr] 25 (0, 0)) := HT1.out
      have yO : wr.heap[w.heap.size + 1 + 1]? = some (.cells #[.slice none 0 0, .slice none 0 0] 25 (0, 0)) := HO1.out
      have z0 : wr.cell? ⟨w.heap.size, 0, none⟩ = some (.slice pc cs.length cc) := block_cell yT 0
      have HOr := hid yO
      have hRf : Rws wr.heap.size wr (.slice none 0 0) [] (rs.filter (holdsX cs qs n)) := by
        have : rs.filter (holdsX cs qs n) = [] := List.filter_eq_nil_iff.2 (fun r _ => by rw [HX.out r]; decide)
        rw [this]; exact Rws.nil _ _
      have HRf := hid hRf
      have HCr := hid ((HCo.out.on HBr.out).imp (fun _ _ => trivial) : TN.ColsAt wr (.slice pc cs.length cc) cs)
      clear yT yO hkm hRf
      go_wp2_with (go_at_call 34; refine (TN.cloneC_any HCr.out).mono ?_; rintro e w4 ⟨v4, rfl, h4, hb4⟩; obtain ⟨p4, c4, rfl, -⟩ := id h4; have HC4 := hid h4; have HB4 := hid hb4; have HR4 := hid (HRf.out.on hb4); have HO4 := hid (block_on HOr.out hb4); have y4 := block_cell HO4.out; have x4 := block_frozen HO4.out; clear h4 hb4)
      have hob : w.heap.size + 1 + 1 < wr.heap.size := by have h1 := lt_of_block HO.out; have h2 := HBc.out.size; omega
      have KF := block_set (block_set HO4.out 0 (.slice p4 cs.length c4)) 1 (.slice none 0 0)
      have hkf : Kp (fun b => b = w.heap.size + 1 + 1) w4 ((w4.setCell ⟨w.heap.size + 1 + 1, 0, none⟩ (.slice p4 cs.length c4)).setCell ⟨w.heap.size + 1 + 1, 1, none⟩ (.slice none 0 0)) := (Kp.set (T := fun b => b = w.heap.size + 1 + 1) rfl _).trans (Kp.set (T := fun b => b = w.heap.size + 1 + 1) rfl _)
      have hwr2 := HBr.out.size
      have hs4 := HB4.out.size
      have hC9 := tnSl_kp (TN.SlAt.low HC4.out (by decide) TN.cl_len) hkf (fun b hb (e : b = w.heap.size + 1 + 1) => by have := hb.1; omega)
      have hR9 := HR4.out.kp hkf (fun b (e : b = w.heap.size + 1 + 1) => by omega)
      have hBf : Below w.heap.size w ((w4.setCell ⟨w.heap.size + 1 + 1, 0, none⟩ (.slice p4 cs.length c4)).setCell ⟨w.heap.size + 1 + 1, 1, none⟩ (.slice none 0 0)) := (HBr.out.trans (HB4.out.mono hwr2)).trans (hkf.below (by omega) (fun b (e : b = w.heap.size + 1 + 1) => by omega))
      have hsf := hkf.size
      clear y4 x4
      generalize ((w4.setCell ⟨w.heap.size + 1 + 1, 0, none⟩ (.slice p4 cs.length c4)).setCell ⟨w.heap.size + 1 + 1, 1, none⟩ (.slice none 0 0)) = WF at *
      refine bodyPost_ret (v := .agg #[.slice p4 cs.length c4, .slice none 0 0]) ?_ rfl ⟨_, _, [], rfl, hC9.imp (fun b hb => ⟨by have := hb.1; omega, by have := hb.2; omega⟩), hR9.le (by omega), hBf⟩
      have kcf := block_cell KF
      clear KF
      simp [results, Try.results14, go_sem, kcf]
theorem where_any {i : Int} {nv cv rv : Value} {qs : List Nx} {cs : List TN.Cl} {rs : List TN.Rw} {hs : List Value} {w : World} (hq : Qx (fun b => b < w.heap.size) w nv qs) (hl : qs.length ≤ 1000) (hc : TN.ColsAt w cv cs) (hr : TN.SlAt TN.any TN.one 1 w rv hs) (hh : TN.HeadsIn TN.any w hs rs) (hM : Mx w) (hz : ∀ q ∈ qs, q.np.kind = 15 → ∀ r ∈ rs, Rsz r) (hrl : rs.length ≤ 1000000) : Calls Try.prog 14 #[.agg #[cv, rv], .agg #[nv], .int .i64 i] w (WhP' cs (rs.filter (holdsX cs qs i)) w) := by
  by_cases hi : i < 0 ∨ (qs.length : Int) ≤ i
  · exact where_out hq hi hc hr hh hrl
  · obtain ⟨n, rfl⟩ : ∃ n : Nat, i = n := ⟨i.toNat, by omega⟩
    exact where_in hq (by omega) hl hc hr hh hM hz hrl
end Go.Proofs.Ytjekpclbedbaoaa.PD
namespace Go.Proofs.Ytjekpclbedbaoaa
open Go.RowKit Go.Joins

section
variable {ts : List Tp} {d : Option PN} {i j j3 j7 j9 : Nat} {E E3 E7 E9 z9 : Int} {t3 t7 : Tp} {ns ns9 : List Np}
theorem take_ok {k : Int} {t : Tp} {E' : Int} (h : Cm (lf E i (takeS ts k i)) t j E') (hE : E' = 0) : E = 0 ∧ j = i + 1 ∧ takeS ts k i = .ok t j := by
  rcases h with ⟨h, h2⟩ | ⟨h, h2⟩
  · exact absurd hE h2
  · unfold lf at h
    split at h
    · rename_i hE0
      refine ⟨hE0, ?_, h⟩
      unfold takeS at h
      split at h
      · cases h; rfl
      · cases h
    · cases h
theorem not_test (hn : isW ts i wNot = false) (hw : isW ts i wOpen = false) : lf 0 i (notB ts d i ns) = (testS ts i).and fun n j => .ok (ns.length, ns ++ [n]) j := by
  unfold lf notB; rw [if_pos rfl, hn, hw, if_neg (by decide), if_neg (by decide)]
theorem test_nm (h : takeS ts 1 i = .ok t3 j3) : testS ts i = if isW ts j3 wHas then (textV ts (j3 + 1)).and fun v j => .ok { n0 with kind := 15, s := t3.s, vk := v.1, vn := v.2.1, vs := v.2.2 } j
  else (oneOfS ts howW j3).and fun k j => (valueS ts j).and fun v j => .ok { n0 with kind := 14, s := t3.s, n := 1 + (k : Int), vk := v.1, vn := v.2.1, vs := v.2.2 } j := by
  unfold testS nameS; rw [h]; rfl
theorem test_has (hn : isW ts i wNot = false) (hw : isW ts i wOpen = false) (h3 : Cm (lf 0 i (takeS ts 1 i)) t3 j3 E3) (hh : isE E3 ts j3 wHas = true) (h7 : Cm (lf E3 (j3 + 1) (takeS ts 3 (j3 + 1))) t7 j7 E7)
    (h9 : Cm2 (lf E7 j7 (.ok (ns.length, ns ++ [{ n0 with kind := 15, s := t3.s, vk := 2, vn := 0, vs := t7.s }]) j7)) z9 ns9 j9 E9) : Cm2 (lf 0 i (notB ts d i ns)) z9 ns9 j9 E9 := by
  have e3 := isE_E hh
  subst e3
  obtain ⟨-, -, h3⟩ := take_ok h3 rfl
  rw [not_test hn hw, test_nm h3, if_pos (isE_W hh)]
  rcases h7 with ⟨h7, hE⟩ | ⟨h7, rfl⟩
  · unfold lf at h7; rw [if_pos rfl] at h7
    unfold lf at h9; rw [if_neg hE] at h9
    unfold textV; rw [h7]; exact h9
  · unfold lf at h7; rw [if_pos rfl] at h7
    unfold lf at h9; rw [if_pos rfl] at h9
    unfold textV; rw [h7]; exact h9
theorem test_bad (hn : isW ts i wNot = false) (hw : isW ts i wOpen = false) (h3 : Cm (lf 0 i (takeS ts 1 i)) t3 j3 E3) (hE : ¬ E3 = 0) : lf 0 i (notB ts d i ns) = .bad j3 E3 := by
  rcases h3 with ⟨h3, -⟩ | ⟨-, h3⟩
  · unfold lf at h3; rw [if_pos rfl] at h3
    rw [not_test hn hw]; unfold testS nameS; rw [h3]; rfl
  · exact absurd h3 hE
theorem idx_nil {ts : List Tp} {j : Nat} : ∀ (ws : List (List UInt8)) (k : Nat), (∀ m, m < ws.length → isW ts j (ws.getD m []) = false) → idxOf ts j ws k = none
  | [], _, _ => rfl
  | x :: r, k, h => by
    unfold idxOf
    have h0 := h 0 (by simp)
    simp only [List.getD_cons_zero] at h0
    rw [h0, if_neg (by decide)]
    exact idx_nil r (k + 1) (fun m hm => by have := h (m + 1) (by simpa using hm); simpa using this)
theorem idx_first {ts : List Tp} {j : Nat} : ∀ (ws : List (List UInt8)) (k n : Nat), n < ws.length → (∀ m, m < n → isW ts j (ws.getD m []) = false) → isW ts j (ws.getD n []) = true → idxOf ts j ws k = some (k + n)
  | [], _, n, h, _, _ => by simp at h
  | x :: r, k, 0, _, _, h2 => by
    unfold idxOf
    simp only [List.getD_cons_zero] at h2
    rw [h2, if_pos rfl]; rfl
  | x :: r, k, n + 1, h, h1, h2 => by
    unfold idxOf
    have h0 := h1 0 (by omega)
    simp only [List.getD_cons_zero] at h0
    rw [h0, if_neg (by decide), idx_first r (k + 1) n (by simpa using h) (fun m hm => by have := h1 (m + 1) (by omega); simpa using this) (by simpa using h2)]
    congr 1; omega
/- The loop over the signs: N is what was found. -/
def LpS (ts : List Tp) (E3 : Int) (j3 k N j : Nat) : Prop :=
  (N = 0 ∧ j = j3 ∧ ∀ m, m < k - 1 → isE E3 ts j3 (howW.getD m []) = false) ∨ (0 < N ∧ N ≤ 6 ∧ E3 = 0 ∧ j = j3 + 1 ∧ oneOfS ts howW j3 = .ok (N - 1) (j3 + 1))
theorem lps_no {k j : Nat} (h : LpS ts E3 j3 k 0 j) (hw : isE E3 ts j3 (howW.getD (k - 1) []) = false) : LpS ts E3 j3 (k + 1) 0 j := by
  rcases h with ⟨h1, h2, h3⟩ | ⟨h1, -⟩
  · refine .inl ⟨rfl, h2, fun m hm => ?_⟩
    rcases Nat.lt_or_ge m (k - 1) with h | h
    · exact h3 m h
    · rw [show m = k - 1 by omega]; exact hw
  · omega
theorem lps_yes {k j : Nat} (h : LpS ts E3 j3 k 0 j) (hk : 1 ≤ k) (hk7 : k < 7) (hw : isE E3 ts j3 (howW.getD (k - 1) []) = true) : LpS ts E3 j3 (k + 1) k (j + 1) := by
  rcases h with ⟨h1, rfl, h3⟩ | ⟨h1, -⟩
  · have hE := isE_E hw
    subst hE
    refine .inr ⟨by omega, by omega, rfl, rfl, ?_⟩
    unfold oneOfS
    rw [idx_first howW 0 (k - 1) (by show k - 1 < 6; omega) (fun m hm => isE_false (h3 m hm) rfl) (isE_W hw), Nat.zero_add]
  · omega
theorem lps_at {k j : Nat} (h : LpS ts E3 j3 k 0 j) : j = j3 := by
  rcases h with ⟨-, h, -⟩ | ⟨h, -⟩
  · exact h
  · omega
theorem test_none {j : Nat} (hn : isW ts i wNot = false) (hw : isW ts i wOpen = false) (h3 : Cm (lf 0 i (takeS ts 1 i)) t3 j3 E3) (hh : isE E3 ts j3 wHas = false) (hl : LpS ts E3 j3 7 0 j) : Cm2 (lf 0 i (notB ts d i ns)) 0 ns j (erS E3 120) := by
  rcases hl with ⟨-, rfl, hl⟩ | ⟨h, -⟩
  · by_cases hE : E3 = 0
    · subst hE
      obtain ⟨-, -, h3⟩ := take_ok h3 rfl
      rw [not_test hn hw, test_nm h3, isE_false hh rfl, if_neg (by decide)]
      unfold oneOfS
      rw [idx_nil howW 0 (fun m hm => isE_false (hl m hm) rfl)]
      exact .inl ⟨rfl, by decide⟩
    · rw [test_bad hn hw h3 hE]
      have e : erS E3 120 = E3 := if_neg hE
      rw [e]; exact .inl ⟨rfl, hE⟩
  · omega
theorem test_cmp {N k j jv : Nat} {Ev : Int} {x : Int × Int × List UInt8} (hn : isW ts i wNot = false) (hw : isW ts i wOpen = false) (h3 : Cm (lf 0 i (takeS ts 1 i)) t3 j3 E3) (hh : isE E3 ts j3 wHas = false) (hl : LpS ts E3 j3 k N j) (hN : 0 < N) (hv : Cm (lf E3 j (valueS ts j)) x jv Ev)
    (h9 : Cm2 (lf Ev jv (.ok (ns.length, ns ++ [{ n0 with kind := 14, s := t3.s, n := (N : Int), vk := x.1, vn := x.2.1, vs := x.2.2 }]) jv)) z9 ns9 j9 E9) : Cm2 (lf 0 i (notB ts d i ns)) z9 ns9 j9 E9 := by
  rcases hl with ⟨h, -⟩ | ⟨-, hN6, rfl, rfl, ho⟩
  · omega
  · obtain ⟨-, -, h3⟩ := take_ok h3 rfl
    rw [not_test hn hw, test_nm h3, isE_false hh rfl, if_neg (by decide), ho]
    have e : (1 : Int) + ((N - 1 : Nat) : Int) = (N : Int) := by omega
    simp only [Rs.and, e]
    rcases hv with ⟨hv, hE⟩ | ⟨hv, rfl⟩
    · unfold lf at hv; rw [if_pos rfl] at hv
      unfold lf at h9; rw [if_neg hE] at h9
      rw [hv]; exact h9
    · unfold lf at hv; rw [if_pos rfl] at hv
      unfold lf at h9; rw [if_pos rfl] at h9
      rw [hv]; exact h9
theorem value_len {j jv : Nat} {Ev : Int} {x : Int × Int × List UInt8} (hv : Cm (lf E j (valueS ts j)) x jv Ev) (hE : Ev = 0) : j + 1 ≤ jv := by
  rcases hv with ⟨-, h⟩ | ⟨h, -⟩
  · exact absurd hE h
  · unfold lf at h
    split at h
    · exact (value_go ts _ _ _ h).1
    · cases h
theorem lps_ge {k N j : Nat} (h : LpS ts E3 j3 k N j) : j3 ≤ j := by
  rcases h with ⟨-, rfl, -⟩ | ⟨-, -, -, rfl, -⟩ <;> omega
end
abbrev hwC : Array Value := #[.string ⟨#[]⟩, .string ⟨#[61]⟩, .string ⟨#[33, 61]⟩, .string ⟨#[60]⟩, .string ⟨#[60, 61]⟩, .string ⟨#[62]⟩, .string ⟨#[62, 61]⟩]
theorem hwC_at (k : Nat) (h1 : 1 ≤ k) (h : k < 7) : hwC[k]? = some (.string (St (howW.getD (k - 1) []))) := by
  match k, h1, h with
  | 1, _, _ => rfl
  | 2, _, _ => rfl
  | 3, _, _ => rfl
  | 4, _, _ => rfl
  | 5, _, _ => rfl
  | 6, _, _ => rfl
end Go.Proofs.Ytjekpclbedbaoaa
namespace Go.Proofs.Ytjekpclbedbaoaa
open Go.RowKit Go.Joins

section
variable {B : Nat} {ts : List Tp} {w w' : World} {rb : Nat} {tv sv : Value} {E : Int} {o i : Nat} {qs : List Nd}
set_option maxRecDepth 100000 in
set_option maxHeartbeats 2000000 in
theorem rnot_test {d : Option PN} (h : Ry B ts w rb tv sv 0 o i qs) (hn : isW ts i wNot = false) (hw : isW ts i wOpen = false) : Calls Try.prog 71 #[dp rb] w (Y2 B ts rb tv sv o w (lf 0 i (notB ts d i (qs.map (·.np))))) := by
  have k0 := h.cell
  have HQL := hid h.ql
  have HLt := hid h.lt
  have HN := hid hn
  have HW := hid hw
  have HS := hid (rsees_no h (x := wNot) hn)
  have hf1 := fld1
  have M1 : Hid True := trivial
  generalize hT : lf 0 i (notB ts d i (qs.map (·.np))) = T at *
  have HTt := hid hT
  clear h hw hn hT
  go_enter Try.func71, Try.ntmps71
  go_upto_region 15 with (first
    | (refine store_nd (q := bare { n0 with kind := 14, s := t3.s }) rfl _ _ rfl rfl rfl (bare_all _) (alloc_block w3 _) rfl ?_; intro w4 h4 k4; have HB4 := hid (Bn.start2 HQ3.out HK3.out.r (At.refl w sv) HLt.out h4 k4); clear h4 k4)
    | (go_at_call 55; have FIRST := M1; refine HS.out.mono ?_; rintro e w1 ⟨rfl, hq, hk⟩; have HQ1 := hid hq; have HK1 := hid hk; clear hq hk M1 FIRST)
    | (go_at_call 55; refine (rsees_no HQ1.out (x := wOpen) HW.out).mono ?_; rintro e w2 ⟨rfl, hq, hk⟩; have HQ2 := hid hq; have HK2 := hid (HK1.out.trans hk); clear hq hk)
    | (go_at_call 94; refine (rkind_any HQ2.out 1).mono ?_; rintro e w3 ⟨hk, t3, v3, E3, j3, rfl, hv3, hq, hc⟩; obtain rfl := hv3; have HK3 := hid (HK2.out.trans hk); have HQ3 := hid hq; have HC3 := hid hc; clear hk hq hc))
  clear HS HQ1 HK1 HQ2 HK2 HQ3 HK3 k0
  generalize w3.heap.size = nb at *
  cases hh : isE E3 ts j3 wHas with
  | true =>
    have HH := hid hh
    clear hh
    go_wp2_with (first
      | (refine store_nv (c := (2, 0, t7.s)) rfl _ _ rfl rfl rfl HB7.out.b ?_; intro w8 h8 k8; have HB8 := hid (HB7.out.set (q' := bare { n0 with kind := 15, s := t3.s, vk := 2, vn := 0, vs := t7.s }) h8 k8); clear h8 k8)
      | (refine load_node (q := bare { n0 with kind := 15, s := t3.s, vk := 2, vn := 0, vs := t7.s }) rfl _ rfl rfl HB8.out.b ?_)
      | (go_at_call 55; refine (rsees_yes HB4.out.r (x := wHas) HH.out).mono ?_; rintro e w5 ⟨rfl, hq, hk⟩; have HB5 := hid (HB4.out.y1 hk hq); have HB6 := hid (HB5.out.set1 (q' := bare { n0 with kind := 15, s := t3.s }) 0 (.int .i64 15) (by kernel_rfl)); have c5 := block_cell HB5.out.b 0; have z5 := block_frozen HB5.out.b 0; clear hq hk)
      | (go_at_call 94; clear c5 z5; refine (rkind_any HB6.out.r 3).mono ?_; rintro e w7 ⟨hk, t7, v7, E7, j7, rfl, hv7, hq, hc⟩; obtain rfl := hv7; have HB7 := hid (HB6.out.y1 hk hq); have HC7 := hid hc; clear hk hq hc)
      | (go_at_call 56; refine (rlay_any HB8.out.r (bare_in _ _ rfl rfl rfl) (fun e => by have h1 := take_ok HC7.out e; have h2 := take_ok HC3.out h1.1; have := HQL.out; omega)).mono ?_; rintro e w9 ⟨hk, z9, E9, j9, sv9, qs9, rfl, hz9, hq, ha, hc⟩; have HB9 := hid (HB8.out.y2 hk ha hq); have HC9 := hid hc; have HZ9 := hid hz9; clear hk hq hc ha hz9))
    go_ret
    refine ⟨HB9.out.k, z9, E9, j9, sv9, qs9, rfl, HZ9.out, HB9.out.r, HB9.out.a, ?_⟩
    rw [← HTt.out]
    exact test_has HN.out HW.out HC3.out HH.out HC7.out (by have := HC9.out; simpa using this)
  | false =>
    have HH := hid hh
    clear hh
    go_upto_region 20 with (go_at_call 55; refine (rsees_no HB4.out.r (x := wHas) HH.out).mono ?_; rintro e w5 ⟨rfl, hq, hk⟩; have HB5 := hid ((HB4.out.y1 hk hq).on ((Below.refl _ _).alloc (Nat.le_refl _) (.cells hwC 9))); have HG := hid (alloc_block w5 (.cells hwC 9)); have HNr : Hid (w5.heap.size ≠ rb) := (fun e => by have := hq.lt; omega); have HNn : Hid (w5.heap.size ≠ nb) := (fun e => by have := lt_of_block (HB4.out.y1 hk hq).b; omega); clear hq hk)
    generalize w5.alloc (.cells hwC 9) = W5 at *
    generalize w5.heap.size = sg at *
    clear HB4
    go_upto_region 21 with fail
    go_loopw [7] (fun u wr => ∃ (k N j : Nat), u = .int .i64 k ∧ (1 : Int) ≤ k ∧ (k : Int) ≤ 7 ∧ Hid (LpS ts E3 j3 k N j) ∧ Hid (Bn B ts w rb tv sv sv E3 o j qs nb (bare { n0 with kind := 14, s := t3.s, n := (N : Int) }) wr) ∧ Hid (wr.heap[sg]? = some (.cells hwC 9))) (fun u _ => 7 - (intOf u).toNat)
    case atStart => exact ⟨1, 0, j3, rfl, by omega, by omega, .inl ⟨rfl, rfl, fun m hm => by omega⟩, HB5.out, HG.out⟩
    case round =>
      obtain ⟨k, N, j, rfl, hk1, hk7, HL, HBr, HGr⟩ := hrel
      clear HB5 HG
      by_cases hN : N = 0
      · subst hN
        have cN : wr.cell? ⟨nb, 2, none⟩ = some (.int .i64 0) := block_cell HBr.out.b 2
        by_cases h7 : k < 7
        · have kI : (k : Int) < 7 := by omega
          have k0 : (0 : Int) ≤ k := by omega
          have cS := (block_cell HGr.out k).trans (hwC_at k (by omega) h7)
          have H7 := hid h7
          have HJ := hid (lps_at HL.out)
          cases hs : isE E3 ts j3 (howW.getD (k - 1) []) with
          | true =>
            have HSs := hid hs
            have HLy := hid (lps_yes HL.out (by omega) h7 hs)
            clear hs h7
            go_wp2_with (go_at_call 55; refine (rsees_yes HBr.out.r (x := howW.getD (k - 1) []) (by rw [HJ.out]; exact HSs.out)).mono ?_; rintro e w6 ⟨rfl, hq, hk⟩; have HB6 := hid (HBr.out.y1 hk hq); have HG6 := hid (hk.blk HGr.out HNr.out); have c6 := block_cell HB6.out.b 2; have z6 := block_frozen HB6.out.b 2; clear hq hk)
            go_roundw
            case rel => exact ⟨k + 1, k, j + 1, by simp, by omega, by omega, HLy.out, HB6.out.set1 (q' := bare { n0 with kind := 14, s := t3.s, n := (k : Int) }) 2 (.int .i64 k) (by kernel_rfl), (Kp.set (T := fun x => x = nb) rfl _).blk HG6.out HNn.out⟩
            case measure => simp [intOf]; have := H7.out; omega
          | false =>
            have HSs := hid hs
            have HLn := hid (lps_no HL.out hs)
            clear hs h7
            go_wp2_with (go_at_call 55; refine (rsees_no HBr.out.r (x := howW.getD (k - 1) []) (by rw [HJ.out]; exact HSs.out)).mono ?_; rintro e w6 ⟨rfl, hq, hk⟩; have HB6 := hid (HBr.out.y1 hk hq); have HG6 := hid (hk.blk HGr.out HNr.out); clear hq hk)
            go_roundw
            case rel => exact ⟨k + 1, 0, j, by simp, by omega, by omega, HLn.out, HB6.out, HG6.out⟩
            case measure => simp [intOf]; have := H7.out; omega
        · obtain rfl : k = 7 := by omega
          clear h7 hk1 hk7
          go_wp2_with (go_at_call 57; refine (rfail_any HBr.out.r).mono ?_; rintro e w6 ⟨rfl, hq, hk⟩; have HB6 := hid (HBr.out.y1 hk hq); clear hq hk)
          go_ret
          refine ⟨HB6.out.k, 0, _, _, sv, qs, rfl, by omega, HB6.out.r, HB6.out.a, ?_⟩
          rw [← HTt.out]
          exact test_none HN.out HW.out HC3.out HH.out HL.out
      · have cN : wr.cell? ⟨nb, 2, none⟩ = some (.int .i64 (N : Int)) := block_cell HBr.out.b 2
        have N0 : ((N : Int) == 0) = false := by simp; omega
        have HNp : Hid (0 < N) := Nat.pos_of_ne_zero hN
        have dk : decide ((k : Int) < 7) = true ∨ decide ((k : Int) < 7) = false := by cases decide ((k : Int) < 7) <;> simp
        clear hN
        rcases dk with dk | dk
        all_goals
          (go_wp2_with (first
            | (refine store_nv (c := x7) rfl _ _ rfl rfl rfl HB7.out.b ?_; intro w8 h8 k8; have HB8 := hid (HB7.out.set (q' := bare { n0 with kind := 14, s := t3.s, n := (N : Int), vk := x7.1, vn := x7.2.1, vs := x7.2.2 }) h8 k8); clear h8 k8)
            | (refine load_node (q := bare { n0 with kind := 14, s := t3.s, n := (N : Int), vk := x7.1, vn := x7.2.1, vs := x7.2.2 }) rfl _ rfl rfl HB8.out.b ?_)
            | (go_at_call 95; refine (rvalue_any HBr.out.r).mono ?_; rintro e w7 ⟨hk, x7, v7, E7, j7, rfl, hv7, hq, hc⟩; obtain rfl := hv7; have HB7 := hid (HBr.out.y1 hk hq); have HC7 := hid hc; clear hk hq hc)
            | (go_at_call 56; refine (rlay_any HB8.out.r (bare_in _ _ rfl rfl rfl) (fun e => by have h1 := value_len HC7.out e; have h2 := lps_ge HL.out; have := HQL.out; have := HBr.out.r.ql; omega)).mono ?_; rintro e w9 ⟨hk, z9, E9, j9, sv9, qs9, rfl, hz9, hq, ha, hc⟩; have HB9 := hid (HB8.out.y2 hk ha hq); have HC9 := hid hc; have HZ9 := hid hz9; clear hk hq hc ha hz9))
           go_ret
           refine ⟨HB9.out.k, z9, E9, j9, sv9, qs9, rfl, HZ9.out, HB9.out.r, HB9.out.a, ?_⟩
           rw [← HTt.out]
           exact test_cmp HN.out HW.out HC3.out HH.out HL.out HNp.out HC7.out (by have := HC9.out; simpa using this))
/- The smallest conditions, and all conditions, at any depth. -/
theorem rnot_any {d : Option PN} (hd : DeepY 71 B ts rb tv o d) (h : Ry B ts w rb tv sv E o i qs) : Calls Try.prog 71 #[dp rb] w (Y2 B ts rb tv sv o w (lf E i (notB ts d i (qs.map (·.np))))) := by
  by_cases hE : E = 0
  · subst hE
    cases hn : isW ts i wNot with
    | true => exact rnot_not hd h hn
    | false =>
      cases hw : isW ts i wOpen with
      | true => exact rnot_open hd h hn hw
      | false => exact rnot_test h hn hw
  · refine (rnot_err h hE).mono ?_
    rintro e w' ⟨rfl, rfl⟩
    exact ⟨Kp.refl _ _, 0, E, i, sv, qs, rfl, by omega, h, At.refl _ _, .inl ⟨if_neg hE, hE⟩⟩
theorem rnotS : ∀ n : Nat, n ≤ 16 → PNy 71 B ts rb tv (16 - n) (notS ts n)
  | 0, _ => fun _ _ _ _ _ _ h => rnot_any (d := none) (show 16 - 0 = 16 from rfl) h
  | n + 1, hn => fun _ _ _ _ _ _ h => rnot_any (d := some (notS ts n)) ⟨by omega, by rw [show 16 - (n + 1) + 1 = 16 - n by omega]; exact rnotS n (by omega), not_go ts n⟩ h
theorem rcondS (n : Nat) (hn : n ≤ 16) : PNy 30 B ts rb tv (16 - n) (condS ts n) := rcondB_any (rnotS n hn) (not_go ts n)
end
end Go.Proofs.Ytjekpclbedbaoaa
