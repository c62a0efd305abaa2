/-
  Stage 15: PredEquals' walk, col < 0 and row < 0.
-/
import Derived.Test.YtopjpkkidjlbeaaKE21
namespace Go.Proofs.Ytopjpkkidjlbeaa.PD
open Go.RowKit Go.Joins

set_option maxRecDepth 100000 in
set_option maxHeartbeats 16000000 in
theorem equals_A {tv : Value} {cs : List TN.Cl} {rs : List TN.Rw} {col row : Int} {w : World} (ht : TN.TabAt w tv cs rs) (hc : -9223372036854775808 ≤ col ∧ col ≤ 9223372036854775807) (hr : -9223372036854775808 ≤ row ∧ row ≤ 9223372036854775807) (hM : Mx w) (hsa : col < 0) (hsb : row < 0) : Calls Try.prog 8 #[tv, .int .i64 col, .int .i64 row] w fun e w' => e = .returned (.bool true) ∧ Below w.heap.size w w' := by
  obtain ⟨cv, rv, rfl, hcs, hs, hrs, hhs⟩ := ht
  have hb0 : Below w.heap.size w (w.alloc (.cells #[cv, rv] 28)) := (Below.refl _ _).alloc (Nat.le_refl _) _
  have hK0 := alloc_block w (.cells #[cv, rv] 28)
  have HB0 := hid hb0
  have HK0 := hid hK0
  have HM0 := hid (hM.on hb0)
  have HC0 := hid ((tn_low hcs (fun x => ⟨_, rfl⟩)).on hb0)
  have HR0 := hid ((tn_low hrs (fun x => ⟨_, rfl⟩)).on hb0)
  have HH0 := hid (TN.HeadsIn.on (⟨hhs.1, fun j h r h1 h2 => row_lt (hhs.2 j h r h1 h2)⟩ : TN.HeadsIn (fun b => b < w.heap.size) w hs rs) hb0)
  obtain ⟨pc, cc, rfl, -⟩ := hcs
  obtain ⟨pr0, cr0, rfl, -⟩ := hrs
  have HP := hid (mx_pos hM)
  clear hb0 hK0 hM hhs
  go_enter Try.func8, Try.ntmps8
  go_upto_region 1 with fail
  generalize w.alloc (.cells #[.slice pc cs.length cc, .slice pr0 hs.length cr0] 28) = w0 at *
  have y0 : w0.cell? ⟨w.heap.size, 0, none⟩ = some (.slice pc cs.length cc) := block_cell HK0.out 0
  have y1 : w0.cell? ⟨w.heap.size, 1, none⟩ = some (.slice pr0 hs.length cr0) := block_cell HK0.out 1
  go_upto_region 2 with (first
    | (go_at_call 14; refine (shown5_any _ HM0.out).mono ?_; rintro e w1 ⟨rfl, hb⟩; have HB1 := hid (HB0.out.trans (hb.mono HB0.out.size)); have hk1 := block_on HK0.out hb; have HK1 := hid hk1; have y2 := block_cell hk1 0; have y3 := block_cell hk1 1; have HC1 := hid (HC0.out.on hb); have HR1 := hid (HR0.out.on hb); have HH1 := hid (HH0.out.on hb); have HM1 := hid (HM0.out.on hb); clear hb hk1 y0 y1))
  go_upto_region 3 with (first
    | (go_at_call 16; refine (TN.cut5_q HC1.out HR1.out HH1.out).mono ?_; rintro e w2 ⟨r2, rfl, hr2, hh2, hb⟩; have hr1 : (rs.take 100).length ≤ 100 := (by rw [List.length_take]; omega); generalize hs.take 100 = hs3 at *; generalize rs.take 100 = rs3 at *; have HLR := hid hr1; obtain ⟨n, hn⟩ : ∃ n, hs3.length = n := ⟨_, rfl⟩; have HN := hid hn; have HB2 := hid (HB1.out.trans (hb.mono HB1.out.size)); have hk2 := block_on HK1.out hb; have HK2 := hid hk2; have y4 := block_cell hk2 0; have y5 := block_cell hk2 1; have y6 := block_frozen hk2 0; have y7 := block_frozen (block_set hk2 0 (.slice pc cs.length cc)) 1; have y8 := block_cell (block_set hk2 0 (.slice pc cs.length cc)) 1; have HC2 := hid (HC1.out.on hb); have HR2 := hid hr2; have HH2 := hid hh2; have HM2 := hid (HM1.out.on hb); obtain ⟨pr, cr, rfl, -⟩ := hr2; rw [hn] at HR2 ⊢; clear hb hk2 y2 y3 hh2 hr1 hn))
  have hkf : Kp (fun b => b = w.heap.size) w2 ((w2.setCell ⟨w.heap.size, 0, none⟩ (.slice pc cs.length cc)).setCell ⟨w.heap.size, 1, none⟩ (.slice pr n cr)) := (Kp.set (T := fun b => b = w.heap.size) rfl _).trans (Kp.set (T := fun b => b = w.heap.size) rfl _)
  have KF := block_set (block_set HK2.out 0 (.slice pc cs.length cc)) 1 (.slice pr n cr)
  have HC3 := hid (tnSl_kp HC2.out hkf (fun b hb e => by omega))
  have HR3 := hid (tnSl_kp HR2.out hkf (fun b hb e => by omega))
  have HH3 : Hid (TN.HeadsIn (fun b => b < w.heap.size) _ hs3 rs3) := hid ⟨HH2.out.1, fun j h r h1 h2 => rowIn_kpT (HH2.out.2 j h r h1 h2) hkf (fun b hb e => by omega)⟩
  have HB3 := hid (HB2.out.trans (hkf.below HB2.out.size (fun b e => by omega)))
  have HM3 : Hid (Mx _) := hid (let ⟨m, hm⟩ := HM2.out; ⟨m, hkf.cell hm (fun e => by have := HP.out; omega)⟩)
  clear y4 y5 y6 y7 y8 hkf HC2 HR2 HH2 HM2 HK2
  have HW3 := hid KF
  clear KF
  generalize (w2.setCell ⟨w.heap.size, 0, none⟩ (.slice pc cs.length cc)).setCell ⟨w.heap.size, 1, none⟩ (.slice pr n cr) = w3 at *
  obtain ⟨z, hz⟩ : ∃ z, TN.checkV cs rs3 = z := ⟨_, rfl⟩
  have HZ := hid hz
  have HT3 : Hid (TN.TabAt w3 (.agg #[.slice pc cs.length cc, .slice pr n cr]) cs rs3) := hid ⟨_, _, rfl, HC3.out.imp (fun _ _ => trivial), hs3, HR3.out.imp (fun _ _ => trivial), HH3.out.1, fun j h r h1 h2 => (HH3.out.2 j h r h1 h2).imp (fun _ _ => trivial)⟩
  have y4 : w3.cell? ⟨w.heap.size, 0, none⟩ = some (.slice pc cs.length cc) := block_cell HW3.out 0
  have y5 : w3.cell? ⟨w.heap.size, 1, none⟩ = some (.slice pr n cr) := block_cell HW3.out 1
  clear hz
  go_upto_region 5 with (first
    | (go_at_call 26; refine (TN.rcheck_any HT3.out).mono ?_; rintro e w4 ⟨rfl, hb⟩; rw [HZ.out]; have HB4 := hid (HB3.out.trans (hb.mono HB3.out.size)); have hk4 := block_on HW3.out hb; have HK4 := hid hk4; have y6 := block_cell hk4 0; have y7 := block_cell hk4 1; have HC4 := hid (HC3.out.on hb); have HR4 := hid (HR3.out.on hb); have HH4 := hid (HH3.out.on hb); have HM4 := hid (HM3.out.on hb); clear hb hk4 y4 y5))
  all_goals first
    | (go_ret; exact ⟨rfl, HB4.out⟩)
    | skip
  go_upto_region 9 with fail
  all_goals clear HC0 HR0 HH0 HM0 HK0 HB0 HR1 HB1 HK1 HC1 HH1 HM1 HB2 HC3 HR3 HH3 HB3 HM3 HW3 HT3 w0 w1 w2 w3
  all_goals first
    | (have e1 : 0 ≤ -(col + 1) ∧ -(col + 1) ≤ 9223372036854775807 := (by omega); generalize -(col + 1) = A at *)
    | (have e1 : 0 ≤ col ∧ col ≤ 9223372036854775807 := (by omega); generalize col = A at *)
  all_goals first
    | (have e2 : 0 ≤ -(row + 1) ∧ -(row + 1) ≤ 9223372036854775807 := (by omega); generalize -(row + 1) = B at *)
    | (have e2 : 0 ≤ row ∧ row ≤ 9223372036854775807 := (by omega); generalize row = B at *)
  all_goals
    have hz0 : z = 0 := (by assumption)
    have hn0 : n ≠ 0 := fun e => absurd (show ((n : Int) == 0) = false by assumption) (by rw [e]; decide)
    have hchk : TN.checkV cs rs3 = 0 := HZ.out.trans hz0
    have hcb := (chk_cols hchk).1
    have hL : 1 ≤ cs.length ∧ cs.length ≤ 16 := (of_decide_eq_true hcb).1
    have hL0 : (cs.length : Int) ≠ 0 := (by omega)
    have hn1 : (n : Int) ≠ 0 := (by omega)
    have hn2 : (n : Int) ≤ 100 := (by have := HLR.out; have := HH4.out.1; have := HN.out; omega)
    obtain ⟨L, hLc⟩ : ∃ L, cs.length = L := ⟨_, rfl⟩
    have HLc := hid hLc
    have hL0' : (L : Int) ≠ 0 := (by omega)
    have HCHK := hid hchk
    go_upto_region 10 with fail
    obtain ⟨c, hAc⟩ : ∃ c : Nat, A % (L : Int) = (c : Int) := ⟨(A % (L : Int)).toNat, by have := Int.emod_nonneg A hL0'; omega⟩
    have hcl : c < L := by have := Int.emod_lt_of_pos A (b := (L : Int)) (by omega); omega
    obtain ⟨k, hBk⟩ : ∃ k : Nat, B % (n : Int) = (k : Int) := ⟨(B % (n : Int)).toNat, by have := Int.emod_nonneg B hn1; omega⟩
    have hkn : k < n := by have := Int.emod_lt_of_pos B (b := (n : Int)) (by omega); omega
    rw [hAc]
    obtain ⟨h, hh⟩ : ∃ h, hs3[k]? = some h := ⟨_, List.getElem?_eq_getElem (by rw [HN.out]; exact hkn)⟩
    have hkr : k < rs3.length := by rw [← HH4.out.1, HN.out]; exact hkn
    obtain ⟨r, hrr⟩ : ∃ r, rs3[k]? = some r := ⟨_, List.getElem?_eq_getElem hkr⟩
    have hrm : rs3[k]! = r := by rw [getElem!_pos rs3 k hkr]; rw [List.getElem?_eq_getElem hkr] at hrr; exact Option.some.inj hrr
    have hrl : r.length = L := by rw [← HLc.out]; exact (row_kind ((chk_cols HCHK.out).2 r (List.mem_of_getElem? hrr)) (c := 0) (by omega)).1
    obtain ⟨v, hvv⟩ : ∃ v, r[c]? = some v := ⟨_, List.getElem?_eq_getElem (by omega)⟩
    have hvm : r[c]! = v := by rw [List.getElem!_eq_getElem?_getD, hvv]; rfl
    obtain ⟨br, og, hpr, hcr⟩ : ∃ b o, pr = some ⟨b, o, none⟩ ∧ w4.cell? ⟨b, o + k, none⟩ = some h := by
      obtain ⟨p', c', e', -, -, hx⟩ := HR4.out
      cases e'
      obtain ⟨b, o, hp, -, hj⟩ := hx (by intro e; rw [e] at hh; simp at hh)
      exact ⟨b, o, hp, by have := hj k h hh 0 h rfl; simpa using this⟩
    subst hpr
    obtain ⟨ph, ch, rfl, -, hvc⟩ := row_at ((HH4.out.2 k h r hh hrr).imp (fun _ _ => trivial))
    obtain ⟨bh, oh, rfl, hc0⟩ := hvc c v hvv
    have hV := hid hc0
    have hbs4 := HB4.out.size
    rw [hrl] at hcr hh
    have HHH := hid hh
    have HRR := hid hrm
    have HVV := hid hvm
    have HKN := hid hkr
    have x0 := hc0.c0
    have x1 := hc0.c1
    have x2 := hc0.c2
    have x3 := hc0.c3
    have x4 := hc0.c4
    have x5 := hc0.c5
    have x6 := hc0.c6
    have x7 := hc0.c7
    have x8 := hc0.c8
    have x9 := hc0.c9
    have x10 := hc0.c10
    clear hvc hc0 hvm hvv hrm hrr hh hkr hrl hchk hcb hLc hz0
    have kI : (k : Int) < n := by omega
    have cI : (c : Int) < L := by omega
    have k0 : (0 : Int) ≤ k := by omega
    have c0 : (0 : Int) ≤ c := by omega
    have hbz : Below w4.heap.size w4 (w4.alloc (.cells #[.int .i64 0, .int .i64 0, .string ⟨#[]⟩, .int .i64 0, .int .i64 0, .int .i64 0, .int .i64 0, .int .i64 0, .int .i64 0, .int .i64 0, .int .i64 0] 39)) := (Below.refl _ _).alloc (Nat.le_refl _) _
    have z7 := block_cell (block_on HK4.out hbz) 1
    have zcr := (hbz.cell (p := ⟨br, og + k, none⟩) (block_lt_of_cell hcr)).trans hcr
    have hcz : TN.ValCells (w4.alloc (.cells #[.int .i64 0, .int .i64 0, .string ⟨#[]⟩, .int .i64 0, .int .i64 0, .int .i64 0, .int .i64 0, .int .i64 0, .int .i64 0, .int .i64 0, .int .i64 0] 39)) bh (oh + c * 11) v := vc_on hV.out hbz
    have z0 := hcz.c0
    have z1 := hcz.c1
    have z2 := hcz.c2
    have z3 := hcz.c3
    have z4 := hcz.c4
    have z5 := hcz.c5
    have z6 := hcz.c6
    have z8 := hcz.c7
    have z9 := hcz.c8
    have za := hcz.c9
    have zb := hcz.c10
    clear hbz hcz
    go_region
    clear x0 x1 x2 x3 x4 x5 x6 x7 x8 x9 x10 z0 z1 z2 z3 z4 z5 z6 z7 z8 z9 za zb zcr hcr y6 y7
    have hb5 : Below w4.heap.size w4 (w4.alloc (.cells #[.int .i64 v.k, .int .i64 v.n, .string v.s, .int .i64 v.h0, .int .i64 v.h1, .int .i64 v.h2, .int .i64 v.h3, .int .i64 v.h4, .int .i64 v.h5, .int .i64 v.h6, .int .i64 v.h7] 39)).drew := ((Below.refl _ _).alloc (Nat.le_refl _) _).drew
    have hk5 : (w4.alloc (.cells #[.int .i64 v.k, .int .i64 v.n, .string v.s, .int .i64 v.h0, .int .i64 v.h1, .int .i64 v.h2, .int .i64 v.h3, .int .i64 v.h4, .int .i64 v.h5, .int .i64 v.h6, .int .i64 v.h7] 39)).drew.heap[w4.heap.size]? = some _ := alloc_block _ _
    have HK5 := hid (block_on HK4.out hb5)
    have HC5 := hid (HC4.out.on hb5)
    have HR5 := hid (HR4.out.on hb5)
    have HH5 := hid (HH4.out.on hb5)
    have HM5 := hid (HM4.out.on hb5)
    have HV5 := hid hk5
    have HB5 := hid (HB4.out.trans (hb5.mono HB4.out.size))
    clear hb5 hk5 hV HK4 HC4 HR4 HH4 HM4 HHH
    generalize (w4.alloc (.cells #[.int .i64 v.k, .int .i64 v.n, .string v.s, .int .i64 v.h0, .int .i64 v.h1, .int .i64 v.h2, .int .i64 v.h3, .int .i64 v.h4, .int .i64 v.h5, .int .i64 v.h6, .int .i64 v.h7] 39)).drew = w5 at *
    generalize hbv : w4.heap.size = bv at *
    have HBV := hid hbs4
    clear HB4 hbv w4
    obtain ⟨cl, hcl2⟩ : ∃ cl, cs[c]? = some cl := ⟨_, List.getElem?_eq_getElem (by rw [HLc.out]; exact hcl)⟩
    have hclm : cs[c]! = cl := by rw [List.getElem!_eq_getElem?_getD, hcl2]; rfl
    obtain ⟨bc, oc, hpc, hcc⟩ : ∃ b o, pc = some ⟨b, o, none⟩ ∧ w5.cell? ⟨b, o + c * 2, none⟩ = some (.string cl.nm) := by
      obtain ⟨p', c', e', -, -, hx⟩ := HC5.out
      cases e'
      obtain ⟨b, o, hp, -, hj⟩ := hx (by intro e; rw [e] at hcl2; simp at hcl2)
      exact ⟨b, o, hp, by have := hj c cl hcl2 0 _ rfl; simpa using this⟩
    subst hpc
    have HCL := hid hclm
    have hS5 : S5 w.heap.size bc (oc + c * 2) bv (.slice (some ⟨bc, oc, none⟩) cs.length cc) (.string cl.nm) v w5 := ⟨block_cell HK5.out 0, hcc, block_cell HV5.out 0, block_cell HV5.out 1, block_cell HV5.out 2, block_cell HV5.out 3, block_cell HV5.out 4, block_cell HV5.out 5, block_cell HV5.out 6, block_cell HV5.out 7, block_cell HV5.out 8, block_cell HV5.out 9, block_cell HV5.out 10⟩
    have hccs : c < cs.length := by rw [HLc.out]; exact hcl
    have hccI : (c : Int) < (cs.length : Int) := by omega
    clear hcl2 hclm hcc
    go_upto_region 11 with fail
    go_region_held3 (S5 w.heap.size bc (oc + c * 2) bv (.slice (some ⟨bc, oc, none⟩) cs.length cc) (.string cl.nm) v) (((repeat (first | (with_reducible refine s5D ?_) | (with_reducible refine s5A ?_))); (with_reducible assumption))) (fail)
    all_goals first
      | (obtain ⟨g1, g2, g3⟩ := fin_two (w := w5) (.cells #[.slice (some ⟨w5.heap.size + 1, 0, none⟩) 2 2] 24) (.cells #[.int .i64 14, .string cl.nm, .int .i64 1, .int .i64 0, .int .i64 0, .int .i64 v.k, .int .i64 v.n, .string v.s, .int .i64 v.h0, .int .i64 v.h1, .int .i64 v.h2, .int .i64 v.h3, .int .i64 v.h4, .int .i64 v.h5, .int .i64 v.h6, .int .i64 v.h7, .slice none 0 0, .slice none 0 0, .slice none 0 0, .int .i64 14, .string cl.nm, .int .i64 2, .int .i64 0, .int .i64 0, .int .i64 v.k, .int .i64 v.n, .string v.s, .int .i64 v.h0, .int .i64 v.h1, .int .i64 v.h2, .int .i64 v.h3, .int .i64 v.h4, .int .i64 v.h5, .int .i64 v.h6, .int .i64 v.h7, .slice none 0 0, .slice none 0 0, .slice none 0 0] 51)
         generalize ((w5.alloc (.cells #[.slice (some ⟨w5.heap.size + 1, 0, none⟩) 2 2] 24)).alloc (.cells #[.int .i64 14, .string cl.nm, .int .i64 1, .int .i64 0, .int .i64 0, .int .i64 v.k, .int .i64 v.n, .string v.s, .int .i64 v.h0, .int .i64 v.h1, .int .i64 v.h2, .int .i64 v.h3, .int .i64 v.h4, .int .i64 v.h5, .int .i64 v.h6, .int .i64 v.h7, .slice none 0 0, .slice none 0 0, .slice none 0 0, .int .i64 14, .string cl.nm, .int .i64 2, .int .i64 0, .int .i64 0, .int .i64 v.k, .int .i64 v.n, .string v.s, .int .i64 v.h0, .int .i64 v.h1, .int .i64 v.h2, .int .i64 v.h3, .int .i64 v.h4, .int .i64 v.h5, .int .i64 v.h6, .int .i64 v.h7, .slice none 0 0, .slice none 0 0, .slice none 0 0] 51)).drew = w6 at *
         have hq6 := (by assumption : S5 _ _ _ _ _ _ _ w6)
         have HS6 := hid hq6
         clear hq6
         have HQ6 := hid (eqn_qx cl v g2)
         have HK6 := hid g1
         have HB6 := hid (HB5.out.trans (g3.mono HB5.out.size))
         have HC6 := hid (HC5.out.on g3)
         have HR6 := hid (HR5.out.on g3)
         have HH6 := hid (HH5.out.on g3)
         have HM6 := hid (HM5.out.on g3)
         have HT6 := hid (block_on HK5.out g3)
         clear g1 g2 g3
         generalize w5.heap.size + 1 = ab at *
         generalize w5.heap.size = qb at *)
      | (obtain ⟨g1, g2, g3⟩ := fin_two (w := w5) (.cells #[.int .i64 14, .string cl.nm, .int .i64 1, .int .i64 0, .int .i64 0, .int .i64 v.k, .int .i64 v.n, .string v.s, .int .i64 v.h0, .int .i64 v.h1, .int .i64 v.h2, .int .i64 v.h3, .int .i64 v.h4, .int .i64 v.h5, .int .i64 v.h6, .int .i64 v.h7, .slice none 0 0, .slice none 0 0, .slice none 0 0, .int .i64 14, .string cl.nm, .int .i64 2, .int .i64 0, .int .i64 0, .int .i64 v.k, .int .i64 v.n, .string v.s, .int .i64 v.h0, .int .i64 v.h1, .int .i64 v.h2, .int .i64 v.h3, .int .i64 v.h4, .int .i64 v.h5, .int .i64 v.h6, .int .i64 v.h7, .slice none 0 0, .slice none 0 0, .slice none 0 0] 51) (.cells #[.slice (some ⟨w5.heap.size, 0, none⟩) 2 2] 24)
         generalize ((w5.alloc (.cells #[.int .i64 14, .string cl.nm, .int .i64 1, .int .i64 0, .int .i64 0, .int .i64 v.k, .int .i64 v.n, .string v.s, .int .i64 v.h0, .int .i64 v.h1, .int .i64 v.h2, .int .i64 v.h3, .int .i64 v.h4, .int .i64 v.h5, .int .i64 v.h6, .int .i64 v.h7, .slice none 0 0, .slice none 0 0, .slice none 0 0, .int .i64 14, .string cl.nm, .int .i64 2, .int .i64 0, .int .i64 0, .int .i64 v.k, .int .i64 v.n, .string v.s, .int .i64 v.h0, .int .i64 v.h1, .int .i64 v.h2, .int .i64 v.h3, .int .i64 v.h4, .int .i64 v.h5, .int .i64 v.h6, .int .i64 v.h7, .slice none 0 0, .slice none 0 0, .slice none 0 0] 51)).alloc (.cells #[.slice (some ⟨w5.heap.size, 0, none⟩) 2 2] 24)).drew = w6 at *
         have hq6 := (by assumption : S5 _ _ _ _ _ _ _ w6)
         have HS6 := hid hq6
         clear hq6
         have HQ6 := hid (eqn_qx cl v g1)
         have HK6 := hid g2
         have HB6 := hid (HB5.out.trans (g3.mono HB5.out.size))
         have HC6 := hid (HC5.out.on g3)
         have HR6 := hid (HR5.out.on g3)
         have HH6 := hid (HH5.out.on g3)
         have HM6 := hid (HM5.out.on g3)
         have HT6 := hid (block_on HK5.out g3)
         clear g1 g2 g3
         generalize w5.heap.size + 1 = qb at *
         generalize w5.heap.size = ab at *)
    all_goals
      clear HK5 HV5 HC5 HR5 HH5 HM5 hS5
      obtain ⟨s1, s2, s3, s4, s5, s6, s7, s8, s9, sa, sb, sc, sd⟩ := HS6.out
      have s0 : w6.cell? ⟨w.heap.size, 1, none⟩ = some (.slice (some ⟨br, og, none⟩) n cr) := block_cell HT6.out 1
      have q0 : w6.cell? ⟨qb, 0, none⟩ = some (.slice (some ⟨ab, 0, none⟩) 2 2) := block_cell HK6.out 0
      have HTT : Hid (TN.SlAt TN.any TN.one 1 w6 (.slice (some ⟨br, og, none⟩) n cr) hs3) := hid (HR6.out.imp (fun _ _ => trivial))
      have HHH : Hid (TN.HeadsIn TN.any w6 hs3 rs3) := hid ⟨HH6.out.1, fun j h r h1 h2 => (HH6.out.2 j h r h1 h2).imp (fun _ _ => trivial)⟩
      have HCC : Hid (TN.ColsAt w6 (.slice (some ⟨bc, oc, none⟩) cs.length cc) cs) := hid (HC6.out.imp (fun _ _ => trivial))
      have hE := eqs_rows HCHK.out hccs HKN.out
      rw [HRR.out, HVV.out, HCL.out] at hE
      have HW0 : Hid (Calls Try.prog 19 #[.agg #[.slice (some ⟨bc, oc, none⟩) cs.length cc, .slice (some ⟨br, og, none⟩) n cr], .agg #[.slice (some ⟨ab, 0, none⟩) 2 2], .int .i64 0] w6 (WhP' cs (rs3.filter (holdsX cs [eqN 1 cl v, eqN 2 cl v] 0)) w6)) := hid (where_any (i := 0) HQ6.out (by show 2 ≤ 1000; omega) HCC.out HTT.out HHH.out HM6.out (fun q hq hk => absurd hk (no15 hq)) (by have := HLR.out; omega))
      have HW1 : Hid (∀ W, Below w6.heap.size w6 W → Calls Try.prog 19 #[.agg #[.slice (some ⟨bc, oc, none⟩) cs.length cc, .slice (some ⟨br, og, none⟩) n cr], .agg #[.slice (some ⟨ab, 0, none⟩) 2 2], .int .i64 1] W (WhP' cs (rs3.filter (holdsX cs [eqN 1 cl v, eqN 2 cl v] 1)) W)) := hid (fun W hb => where_any (i := 1) (qx_lt HQ6.out hb) (by show 2 ≤ 1000; omega) (HCC.out.on hb) (HTT.out.on hb) (HHH.out.on hb) (HM6.out.on hb) (fun q hq hk => absurd hk (no15 hq)) (by have := HLR.out; omega))
      generalize rs3.filter (holdsX cs [eqN 1 cl v, eqN 2 cl v] 0) = f0 at *
      generalize rs3.filter (holdsX cs [eqN 1 cl v, eqN 2 cl v] 1) = f1 at *
      have HE := hid hE
      have HHL := hid HHH.out.1
      clear hE HCL HQ6 HCC HTT HHH HC6 HR6 HH6 HM6 HCHK HRR HVV
      go_upto_region 13 with (first
        | (go_at_call 19; refine HW0.out.mono ?_; rintro e w7 ⟨cv7, rv7, hs7, rfl, hc7, hr7, hb7⟩; obtain ⟨p7, c7, rfl, -⟩ := hc7; obtain ⟨n7, hn7⟩ : ∃ n7, hs7.length = n7 := ⟨_, rfl⟩; have HN7 := hid hn7; have HR7 := hid hr7; obtain ⟨pa, ca, rfl⟩ := hr7.own.form; have HB7 := hid hb7; rw [hn7] at HR7 ⊢; clear hr7 hn7 hb7 s1 s2 s3 s4 s5 s6 s7 s8 s9 sa sb sc sd s0 q0))
      have hb8 : Below w7.heap.size w7 (w7.alloc (.cells #[.slice p7 cs.length c7, .slice pa n7 ca] 28)) := (Below.refl _ _).alloc (Nat.le_refl _) _
      have HB8 := hid (HB7.out.trans (hb8.mono HB7.out.size))
      have HA8 := hid (alloc_block w7 (.cells #[.slice p7 cs.length c7, .slice pa n7 ca] 28))
      have HR8 := hid (HR7.out.on hb8)
      clear hb8
      generalize w7.alloc (.cells #[.slice p7 cs.length c7, .slice pa n7 ca] 28) = w8 at *
      generalize w7.heap.size = qa at *
      have HS8 := hid (s5B HS6.out HB8.out)
      have HK8 := hid (block_on HK6.out HB8.out)
      have HT8 := hid (block_on HT6.out HB8.out)
      obtain ⟨s1, s2, s3, s4, s5, s6, s7, s8, s9, sa, sb, sc, sd⟩ := HS8.out
      have s0 : w8.cell? ⟨w.heap.size, 1, none⟩ = some (.slice (some ⟨br, og, none⟩) n cr) := block_cell HT8.out 1
      have q0 : w8.cell? ⟨qb, 0, none⟩ = some (.slice (some ⟨ab, 0, none⟩) 2 2) := block_cell HK8.out 0
      clear HB7 HR7 HW0 HT6 HK6 w7
      go_upto_region 14 with (first
        | (go_at_call 19; refine (HW1.out _ HB8.out).mono ?_; rintro e w9 ⟨cv9, rv9, hs9, rfl, hc9, hr9, hb9⟩; obtain ⟨p9, c9, rfl, -⟩ := hc9; obtain ⟨n9, hn9⟩ : ∃ n9, hs9.length = n9 := ⟨_, rfl⟩; have HN9 := hid hn9; have HR9 := hid hr9; obtain ⟨pb, cb, rfl⟩ := hr9.own.form; have HB9 := hid hb9; rw [hn9] at HR9 ⊢; clear hr9 hn9 hb9 s1 s2 s3 s4 s5 s6 s7 s8 s9 sa sb sc sd s0 q0))
      have hb0 : Below w9.heap.size w9 (w9.alloc (.cells #[.slice p9 cs.length c9, .slice pb n9 cb] 28)) := (Below.refl _ _).alloc (Nat.le_refl _) _
      have hb1 := HB9.out.trans (hb0.mono HB9.out.size)
      have HB0 := hid (HB6.out.trans ((HB8.out.trans (hb1.mono HB8.out.size)).mono HB6.out.size))
      have HAb := hid (alloc_block w9 (.cells #[.slice p9 cs.length c9, .slice pb n9 cb] 28))
      have HAa := hid (block_on HA8.out hb1)
      have HRb := hid (HR9.out.on hb0)
      have HRa := hid (HR8.out.on hb1)
      have HS0 := hid (s5B HS8.out hb1)
      have HT0 := hid (block_on HT8.out hb1)
      clear hb0 hb1
      generalize w9.alloc (.cells #[.slice p9 cs.length c9, .slice pb n9 cb] 28) = w0 at *
      generalize w9.heap.size = qc at *
      clear HB9 HR9 HW1 HT8 HK8 HS8 HR8 HA8 HS6
      obtain ⟨-, -, s3, s4, s5, s6, s7, s8, s9, sa, sb, sc, sd⟩ := HS0.out
      have s0 : w0.cell? ⟨w.heap.size, 1, none⟩ = some (.slice (some ⟨br, og, none⟩) n cr) := block_cell HT0.out 1
      have a1 : w0.cell? ⟨qa, 1, none⟩ = some (.slice pa n7 ca) := block_cell HAa.out 1
      have b1 : w0.cell? ⟨qc, 1, none⟩ = some (.slice pb n9 cb) := block_cell HAb.out 1
      have hl7 : f0.length = n7 := by rw [← HRa.out.len, HN7.out]
      have hl9 : f1.length = n9 := by rw [← HRb.out.len, HN9.out]
      have HL7 := hid hl7
      have HL9 := hid hl9
      have hsum := HE.out.2.2.2
      have hpos := HE.out.2.2.1
      have hl3 : rs3.length = n := by rw [← HHL.out, HN.out]
      rw [hl7, hl9, hl3] at hsum
      rw [hl7] at hpos
      clear hl7 hl9 hl3
      go_upto_region 15 with fail
      have HB15 := hid HB0.out
      go_loopw [13] (fun x wr => ∃ k : Nat, k ≤ n7 ∧ x = .int .i64 k ∧ Hid (Below w0.heap.size w0 wr)) (fun x _ => n7 - (intOf x).toNat)
      case atStart => exact ⟨0, by omega, rfl, Below.refl _ _⟩
      case round =>
        obtain ⟨k1, hk1, rfl, HBr⟩ := hrel
        have hT2 := block_on HT0.out HBr.out
        have hA2 := block_on HAa.out HBr.out
        have hB2 := block_on HAb.out HBr.out
        have t1 : wr.cell? ⟨w.heap.size, 1, none⟩ = some (.slice (some ⟨br, og, none⟩) n cr) := block_cell hT2 1
        have t2 : wr.cell? ⟨qa, 1, none⟩ = some (.slice pa n7 ca) := block_cell hA2 1
        have t3 : wr.cell? ⟨qc, 1, none⟩ = some (.slice pb n9 cb) := block_cell hB2 1
        have HSr := hid (s5B HS0.out HBr.out)
        clear hT2 hA2 hB2
        by_cases hk2 : k1 < n7
        · have j1 : (k1 : Int) < n7 := by omega
          have j0 : (0 : Int) ≤ k1 := by omega
          obtain ⟨g, hg⟩ : ∃ g, hs7[k1]? = some g := ⟨_, List.getElem?_eq_getElem (by rw [HN7.out]; exact hk2)⟩
          obtain ⟨r1, hr1⟩ : ∃ r1, f0[k1]? = some r1 := ⟨_, List.getElem?_eq_getElem (by rw [HL7.out]; exact hk2)⟩
          obtain ⟨hrl1, hrv1⟩ := HE.out.1 r1 (List.mem_of_getElem? hr1)
          obtain ⟨x1, hx1⟩ : ∃ x1, r1[c]? = some x1 := ⟨_, List.getElem?_eq_getElem (by rw [hrl1]; exact hccs)⟩
          have hxv : x1 = v := by rw [← hrv1, List.getElem!_eq_getElem?_getD, hx1]; rfl
          subst hxv
          have hrow := (HRa.out.row k1 g r1 hg hr1).on HBr.out
          obtain ⟨ba, oa, hpa, hca⟩ : ∃ b o, pa = some ⟨b, o, none⟩ ∧ wr.cell? ⟨b, o + k1, none⟩ = some g := row_head (HRa.out.on HBr.out) hg
          subst hpa
          obtain ⟨ph1, ch1, rfl, -, hvc1⟩ := row_at (hrow.imp (fun _ _ => trivial))
          obtain ⟨bh1, oh1, rfl, hv1⟩ := hvc1 c x1 hx1
          rw [hrl1] at hca
          obtain ⟨-, -, s3, s4, s5, s6, s7, s8, s9, sa, sb, sc, sd⟩ := HSr.out
          have hS9 : S9 qa ba (oa + k1) bh1 (oh1 + c * 11) bv (.slice (some ⟨ba, oa, none⟩) n7 ca) (.slice (some ⟨bh1, oh1, none⟩) cs.length ch1) x1 x1 wr := ⟨t2, hca, hv1.c0, hv1.c1, hv1.c2, hv1.c3, hv1.c4, hv1.c5, hv1.c6, hv1.c7, hv1.c8, hv1.c9, hv1.c10, s3, s4, s5, s6, s7, s8, s9, sa, sb, sc, sd⟩
          clear hvc1 hrow hg hr1 hv1 hrv1 hx1 hrl1 s3 s4 s5 s6 s7 s8 s9 sa sb sc sd
          have he2 := TN.equalIn22 x1.h0 x1.h1 x1.h2 x1.h3 x1.h4 x1.h5 x1.h6 x1.h7 x1.h0 x1.h1 x1.h2 x1.h3 x1.h4 x1.h5 x1.h6 x1.h7 9997 wr
          have he3 := TN.equalIn22 x1.h0 x1.h1 x1.h2 x1.h3 x1.h4 x1.h5 x1.h6 x1.h7 x1.h0 x1.h1 x1.h2 x1.h3 x1.h4 x1.h5 x1.h6 x1.h7 9997 wr.drew
          rw [show TN.eqH x1.h0 x1.h1 x1.h2 x1.h3 x1.h4 x1.h5 x1.h6 x1.h7 x1.h0 x1.h1 x1.h2 x1.h3 x1.h4 x1.h5 x1.h6 x1.h7 = true by simp [TN.eqH]] at he2 he3
          obtain ⟨-, m0, m1, m2, m3, m4, m5, m6, m7, m8, m9, ma, mb, s3, s4, s5, s6, s7, s8, s9, sa, sb, sc, sd⟩ := hS9
          go_upto_region 17 with fail
          go_region
          go_wp2_with fail
          go_roundw
          case rel => exact ⟨k1 + 1, by omega, by go_num, HBr.out.drew⟩
          case measure => simp [intOf]; omega
        · have hk5 : k1 = n7 := by omega
          have j1 : ¬ (k1 : Int) < n7 := by omega
          go_upto_region 20 with fail
          go_loopw [14] (fun x wr => ∃ k : Nat, k ≤ n9 ∧ x = .int .i64 k ∧ Hid (Below w0.heap.size w0 wr)) (fun x _ => n9 - (intOf x).toNat)
          case atStart => exact ⟨0, by omega, rfl, HBr⟩
          case round =>
            obtain ⟨k3, hk3, rfl, HBq⟩ := hrel
            have hT2 := block_on HT0.out HBq.out
            have hA2 := block_on HAa.out HBq.out
            have hB2 := block_on HAb.out HBq.out
            have t1 : wr.cell? ⟨w.heap.size, 1, none⟩ = some (.slice (some ⟨br, og, none⟩) n cr) := block_cell hT2 1
            have t2 : wr.cell? ⟨qa, 1, none⟩ = some (.slice pa n7 ca) := block_cell hA2 1
            have t3 : wr.cell? ⟨qc, 1, none⟩ = some (.slice pb n9 cb) := block_cell hB2 1
            have HSq := hid (s5B HS0.out HBq.out)
            clear hT2 hA2 hB2
            by_cases hk4 : k3 < n9
            · have j1 : (k3 : Int) < n9 := by omega
              have j0 : (0 : Int) ≤ k3 := by omega
              obtain ⟨g, hg⟩ : ∃ g, hs9[k3]? = some g := ⟨_, List.getElem?_eq_getElem (by rw [HN9.out]; exact hk4)⟩
              obtain ⟨r1, hr1⟩ : ∃ r1, f1[k3]? = some r1 := ⟨_, List.getElem?_eq_getElem (by rw [HL9.out]; exact hk4)⟩
              obtain ⟨hrl1, hrv1⟩ := HE.out.2.1 r1 (List.mem_of_getElem? hr1)
              obtain ⟨x1, hx1⟩ : ∃ x1, r1[c]? = some x1 := ⟨_, List.getElem?_eq_getElem (by rw [hrl1]; exact hccs)⟩
              have hxv : x1 ≠ v := fun e => hrv1 (by rw [List.getElem!_eq_getElem?_getD, hx1]; exact e)
              have hxe : TN.eqL x1 v = false := by rw [Bool.eq_false_iff]; exact fun e => hxv ((TN.eqL_iff x1 v).1 e)
              have hrow := (HRb.out.row k3 g r1 hg hr1).on HBq.out
              obtain ⟨ba, oa, hpb, hca⟩ : ∃ b o, pb = some ⟨b, o, none⟩ ∧ wr.cell? ⟨b, o + k3, none⟩ = some g := row_head (HRb.out.on HBq.out) hg
              subst hpb
              obtain ⟨ph1, ch1, rfl, -, hvc1⟩ := row_at (hrow.imp (fun _ _ => trivial))
              obtain ⟨bh1, oh1, rfl, hv1⟩ := hvc1 c x1 hx1
              rw [hrl1] at hca
              obtain ⟨-, -, s3, s4, s5, s6, s7, s8, s9, sa, sb, sc, sd⟩ := HSq.out
              have hS9 : S9 qc ba (oa + k3) bh1 (oh1 + c * 11) bv (.slice (some ⟨ba, oa, none⟩) n9 cb) (.slice (some ⟨bh1, oh1, none⟩) cs.length ch1) x1 v wr := ⟨t3, hca, hv1.c0, hv1.c1, hv1.c2, hv1.c3, hv1.c4, hv1.c5, hv1.c6, hv1.c7, hv1.c8, hv1.c9, hv1.c10, s3, s4, s5, s6, s7, s8, s9, sa, sb, sc, sd⟩
              clear hvc1 hrow hg hr1 hv1 hrv1 hx1 hrl1 s3 s4 s5 s6 s7 s8 s9 sa sb sc sd
              have he2 := TN.equalIn22 x1.h0 x1.h1 x1.h2 x1.h3 x1.h4 x1.h5 x1.h6 x1.h7 v.h0 v.h1 v.h2 v.h3 v.h4 v.h5 v.h6 v.h7 9997 wr
              have he3 := TN.equalIn22 x1.h0 x1.h1 x1.h2 x1.h3 x1.h4 x1.h5 x1.h6 x1.h7 v.h0 v.h1 v.h2 v.h3 v.h4 v.h5 v.h6 v.h7 9997 wr.drew
              have hst := TN.bytes_beq x1.s v.s
              unfold TN.eqL TN.eqV at hxe
              obtain ⟨-, m0, m1, m2, m3, m4, m5, m6, m7, m8, m9, ma, mb, s3, s4, s5, s6, s7, s8, s9, sa, sb, sc, sd⟩ := hS9
              by_cases i1 : x1.k = v.k
              · by_cases i2 : x1.n = v.n
                · by_cases i3 : x1.s = v.s
                  · rw [show TN.eqH x1.h0 x1.h1 x1.h2 x1.h3 x1.h4 x1.h5 x1.h6 x1.h7 v.h0 v.h1 v.h2 v.h3 v.h4 v.h5 v.h6 v.h7 = false by simpa [i1, i2, i3] using hxe] at he2 he3
                    go_upto_region 22 with fail
                    go_region
                    all_goals go_wp2_with fail
                    all_goals go_roundw
                    case rel => exact ⟨k3 + 1, by omega, by go_num, HBq.out.drew⟩
                    case measure => simp [intOf]; omega
                  · go_upto_region 22 with fail
                    go_region
                    all_goals go_wp2_with fail
                    all_goals go_roundw
                    case rel => exact ⟨k3 + 1, by omega, by go_num, HBq.out.drew⟩
                    case measure => simp [intOf]; omega
                · go_upto_region 22 with fail
                  go_region
                  all_goals go_wp2_with fail
                  all_goals go_roundw
                  case rel => exact ⟨k3 + 1, by omega, by go_num, HBq.out.drew⟩
                  case measure => simp [intOf]; omega
              · go_upto_region 22 with fail
                go_region
                all_goals go_wp2_with fail
                all_goals go_roundw
                case rel => exact ⟨k3 + 1, by omega, by go_num, HBq.out.drew⟩
                case measure => simp [intOf]; omega
            · have j3 : ¬ (k3 : Int) < n9 := by omega
              have hp7 : (0 : Int) < n7 := by omega
              have hsI : (n7 : Int) + n9 = n := by omega
              go_wp2_with fail
              go_ret
              exact ⟨rfl, HB0.out.trans (HBq.out.mono HB0.out.size)⟩
end Go.Proofs.Ytopjpkkidjlbeaa.PD
