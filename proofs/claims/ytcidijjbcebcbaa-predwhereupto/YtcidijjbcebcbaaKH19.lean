/-
  The reference's Holds.
-/
import Derived.Test.YtcidijjbcebcbaaKH14
import Derived.Test.YtcidijjbcebcbaaKH18
import Derived.Deep.CutBlock
import Derived.BigRegion
namespace Go.Proofs.Ytcidijjbcebcbaa.PD
open Go.RowKit Go.Joins

theorem okA_same {os : List Bool} {k n : Nat} (hk : k < n) (h : os[k]? = some false) : okA os (k + 1) n = okA os k n := by
  rw [← okA_set hk h]
  obtain ⟨hl, -⟩ := List.getElem?_eq_some_iff.1 h
  apply List.ext_getElem?
  intro j
  rw [List.getElem?_set]
  by_cases e : k = j
  · subst e
    rw [if_pos rfl]
    unfold okA
    obtain ⟨m, hm⟩ : ∃ m, n - k = m + 1 := ⟨n - k - 1, by omega⟩
    rw [hm, List.replicate_succ, List.getElem?_append_right (by rw [List.length_take]; omega), List.length_take, show k - min k os.length = 0 by omega]
    simp [List.length_take]; omega
  · rw [if_neg e]

abbrev A1 (a : Addr) (v : Value) (w : World) : Prop := w.cell? a = some v
theorem A1.d {a : Addr} {v : Value} {w : World} (h : A1 a v w) : A1 a v w.drew := h
theorem A1.s {a : Addr} {v x : Value} {R i : Nat} {w : World} (h0 : R ≠ a.block) (h : A1 a v w) : A1 a v (w.setCell ⟨R, i, none⟩ x) := (World.cell?_setCell_far _ _ _ _ h0).trans h
theorem tst_cmp {cs : List TN.Cl} {q : Nx} {k : Nat} {hs : List Bool} {row : TN.Rw} {v : TN.Vl} (h : q.np.kind = 14) (hv : valAt cs row q.np.s = some v) : tst cs q k hs row = cmpQ q v := by unfold tst; rw [if_pos h, hv]
theorem tst_cmp0 {cs : List TN.Cl} {q : Nx} {k : Nat} {hs : List Bool} {row : TN.Rw} (h : q.np.kind = 14) (hv : valAt cs row q.np.s = none) : tst cs q k hs row = false := by unfold tst; rw [if_pos h, hv]
theorem tst_has {cs : List TN.Cl} {q : Nx} {k : Nat} {hs : List Bool} {row : TN.Rw} {v : TN.Vl} (h : q.np.kind = 15) (hv : valAt cs row q.np.s = some v) : tst cs q k hs row = hasQ q v := by unfold tst; rw [if_neg (by omega), if_pos h, hv]
theorem tst_has0 {cs : List TN.Cl} {q : Nx} {k : Nat} {hs : List Bool} {row : TN.Rw} (h : q.np.kind = 15) (hv : valAt cs row q.np.s = none) : tst cs q k hs row = false := by unfold tst; rw [if_neg (by omega), if_pos h, hv]
abbrev SA (nb rb ro : Nat) (q : Nx) (v : TN.Vl) (w : World) : Prop :=
  w.cell? ⟨nb, 2, none⟩ = some (.int .i64 q.np.n) ∧ w.cell? ⟨nb, 5, none⟩ = some (.int .i64 q.np.vk) ∧ w.cell? ⟨nb, 6, none⟩ = some (.int .i64 q.np.vn) ∧ w.cell? ⟨nb, 7, none⟩ = some (.string (St q.np.vs)) ∧ w.cell? ⟨nb, 8, none⟩ = some (.int .i64 q.h0) ∧ w.cell? ⟨nb, 9, none⟩ = some (.int .i64 q.h1) ∧ w.cell? ⟨nb, 10, none⟩ = some (.int .i64 q.h2) ∧ w.cell? ⟨nb, 11, none⟩ = some (.int .i64 q.h3) ∧ w.cell? ⟨nb, 12, none⟩ = some (.int .i64 q.h4) ∧ w.cell? ⟨nb, 13, none⟩ = some (.int .i64 q.h5) ∧ w.cell? ⟨nb, 14, none⟩ = some (.int .i64 q.h6) ∧ w.cell? ⟨nb, 15, none⟩ = some (.int .i64 q.h7) ∧ w.cell? ⟨rb, ro, none⟩ = some (.int .i64 v.k) ∧ w.cell? ⟨rb, ro + 1, none⟩ = some (.int .i64 v.n) ∧ w.cell? ⟨rb, ro + 2, none⟩ = some (.string v.s) ∧ w.cell? ⟨rb, ro + 3, none⟩ = some (.int .i64 v.h0) ∧ w.cell? ⟨rb, ro + 4, none⟩ = some (.int .i64 v.h1) ∧ w.cell? ⟨rb, ro + 5, none⟩ = some (.int .i64 v.h2) ∧ w.cell? ⟨rb, ro + 6, none⟩ = some (.int .i64 v.h3) ∧ w.cell? ⟨rb, ro + 7, none⟩ = some (.int .i64 v.h4) ∧ w.cell? ⟨rb, ro + 8, none⟩ = some (.int .i64 v.h5) ∧ w.cell? ⟨rb, ro + 9, none⟩ = some (.int .i64 v.h6) ∧ w.cell? ⟨rb, ro + 10, none⟩ = some (.int .i64 v.h7)
theorem SA.on {nb rb ro : Nat} {q : Nx} {v : TN.Vl} {w w' : World} (h : SA nb rb ro q v w) (hb : Below w.heap.size w w') : SA nb rb ro q v w' :=
  ⟨(hb.cell (block_lt_of_cell (h.1))).trans (h.1), (hb.cell (block_lt_of_cell (h.2.1))).trans (h.2.1), (hb.cell (block_lt_of_cell (h.2.2.1))).trans (h.2.2.1), (hb.cell (block_lt_of_cell (h.2.2.2.1))).trans (h.2.2.2.1), (hb.cell (block_lt_of_cell (h.2.2.2.2.1))).trans (h.2.2.2.2.1), (hb.cell (block_lt_of_cell (h.2.2.2.2.2.1))).trans (h.2.2.2.2.2.1), (hb.cell (block_lt_of_cell (h.2.2.2.2.2.2.1))).trans (h.2.2.2.2.2.2.1), (hb.cell (block_lt_of_cell (h.2.2.2.2.2.2.2.1))).trans (h.2.2.2.2.2.2.2.1), (hb.cell (block_lt_of_cell (h.2.2.2.2.2.2.2.2.1))).trans (h.2.2.2.2.2.2.2.2.1), (hb.cell (block_lt_of_cell (h.2.2.2.2.2.2.2.2.2.1))).trans (h.2.2.2.2.2.2.2.2.2.1), (hb.cell (block_lt_of_cell (h.2.2.2.2.2.2.2.2.2.2.1))).trans (h.2.2.2.2.2.2.2.2.2.2.1), (hb.cell (block_lt_of_cell (h.2.2.2.2.2.2.2.2.2.2.2.1))).trans (h.2.2.2.2.2.2.2.2.2.2.2.1), (hb.cell (block_lt_of_cell (h.2.2.2.2.2.2.2.2.2.2.2.2.1))).trans (h.2.2.2.2.2.2.2.2.2.2.2.2.1), (hb.cell (block_lt_of_cell (h.2.2.2.2.2.2.2.2.2.2.2.2.2.1))).trans (h.2.2.2.2.2.2.2.2.2.2.2.2.2.1), (hb.cell (block_lt_of_cell (h.2.2.2.2.2.2.2.2.2.2.2.2.2.2.1))).trans (h.2.2.2.2.2.2.2.2.2.2.2.2.2.2.1), (hb.cell (block_lt_of_cell (h.2.2.2.2.2.2.2.2.2.2.2.2.2.2.2.1))).trans (h.2.2.2.2.2.2.2.2.2.2.2.2.2.2.2.1), (hb.cell (block_lt_of_cell (h.2.2.2.2.2.2.2.2.2.2.2.2.2.2.2.2.1))).trans (h.2.2.2.2.2.2.2.2.2.2.2.2.2.2.2.2.1), (hb.cell (block_lt_of_cell (h.2.2.2.2.2.2.2.2.2.2.2.2.2.2.2.2.2.1))).trans (h.2.2.2.2.2.2.2.2.2.2.2.2.2.2.2.2.2.1), (hb.cell (block_lt_of_cell (h.2.2.2.2.2.2.2.2.2.2.2.2.2.2.2.2.2.2.1))).trans (h.2.2.2.2.2.2.2.2.2.2.2.2.2.2.2.2.2.2.1), (hb.cell (block_lt_of_cell (h.2.2.2.2.2.2.2.2.2.2.2.2.2.2.2.2.2.2.2.1))).trans (h.2.2.2.2.2.2.2.2.2.2.2.2.2.2.2.2.2.2.2.1), (hb.cell (block_lt_of_cell (h.2.2.2.2.2.2.2.2.2.2.2.2.2.2.2.2.2.2.2.2.1))).trans (h.2.2.2.2.2.2.2.2.2.2.2.2.2.2.2.2.2.2.2.2.1), (hb.cell (block_lt_of_cell (h.2.2.2.2.2.2.2.2.2.2.2.2.2.2.2.2.2.2.2.2.2.1))).trans (h.2.2.2.2.2.2.2.2.2.2.2.2.2.2.2.2.2.2.2.2.2.1), (hb.cell (block_lt_of_cell (h.2.2.2.2.2.2.2.2.2.2.2.2.2.2.2.2.2.2.2.2.2.2))).trans (h.2.2.2.2.2.2.2.2.2.2.2.2.2.2.2.2.2.2.2.2.2.2)⟩
theorem SA.d {nb rb ro : Nat} {q : Nx} {v : TN.Vl} {w : World} (h : SA nb rb ro q v w) : SA nb rb ro q v w.drew := h
theorem SA.s {nb rb ro R i : Nat} {x : Value} {q : Nx} {v : TN.Vl} {w : World} (h0 : R ≠ nb) (h1 : R ≠ rb) (h : SA nb rb ro q v w) : SA nb rb ro q v (w.setCell ⟨R, i, none⟩ x) :=
  ⟨(World.cell?_setCell_far _ _ _ _ h0).trans (h.1), (World.cell?_setCell_far _ _ _ _ h0).trans (h.2.1), (World.cell?_setCell_far _ _ _ _ h0).trans (h.2.2.1), (World.cell?_setCell_far _ _ _ _ h0).trans (h.2.2.2.1), (World.cell?_setCell_far _ _ _ _ h0).trans (h.2.2.2.2.1), (World.cell?_setCell_far _ _ _ _ h0).trans (h.2.2.2.2.2.1), (World.cell?_setCell_far _ _ _ _ h0).trans (h.2.2.2.2.2.2.1), (World.cell?_setCell_far _ _ _ _ h0).trans (h.2.2.2.2.2.2.2.1), (World.cell?_setCell_far _ _ _ _ h0).trans (h.2.2.2.2.2.2.2.2.1), (World.cell?_setCell_far _ _ _ _ h0).trans (h.2.2.2.2.2.2.2.2.2.1), (World.cell?_setCell_far _ _ _ _ h0).trans (h.2.2.2.2.2.2.2.2.2.2.1), (World.cell?_setCell_far _ _ _ _ h0).trans (h.2.2.2.2.2.2.2.2.2.2.2.1), (World.cell?_setCell_far _ _ _ _ h1).trans (h.2.2.2.2.2.2.2.2.2.2.2.2.1), (World.cell?_setCell_far _ _ _ _ h1).trans (h.2.2.2.2.2.2.2.2.2.2.2.2.2.1), (World.cell?_setCell_far _ _ _ _ h1).trans (h.2.2.2.2.2.2.2.2.2.2.2.2.2.2.1), (World.cell?_setCell_far _ _ _ _ h1).trans (h.2.2.2.2.2.2.2.2.2.2.2.2.2.2.2.1), (World.cell?_setCell_far _ _ _ _ h1).trans (h.2.2.2.2.2.2.2.2.2.2.2.2.2.2.2.2.1), (World.cell?_setCell_far _ _ _ _ h1).trans (h.2.2.2.2.2.2.2.2.2.2.2.2.2.2.2.2.2.1), (World.cell?_setCell_far _ _ _ _ h1).trans (h.2.2.2.2.2.2.2.2.2.2.2.2.2.2.2.2.2.2.1), (World.cell?_setCell_far _ _ _ _ h1).trans (h.2.2.2.2.2.2.2.2.2.2.2.2.2.2.2.2.2.2.2.1), (World.cell?_setCell_far _ _ _ _ h1).trans (h.2.2.2.2.2.2.2.2.2.2.2.2.2.2.2.2.2.2.2.2.1), (World.cell?_setCell_far _ _ _ _ h1).trans (h.2.2.2.2.2.2.2.2.2.2.2.2.2.2.2.2.2.2.2.2.2.1), (World.cell?_setCell_far _ _ _ _ h1).trans (h.2.2.2.2.2.2.2.2.2.2.2.2.2.2.2.2.2.2.2.2.2.2)⟩
theorem SA.mk {nb rb ro : Nat} {q : Nx} {v : TN.Vl} {w : World} (h : w.heap[nb]? = some (.cells q.cells.toArray 51 (0, 0))) (V : TN.ValCells w rb ro v) : SA nb rb ro q v w :=
  ⟨block_cell h 2, block_cell h 5, block_cell h 6, block_cell h 7, block_cell h 8, block_cell h 9, block_cell h 10, block_cell h 11, block_cell h 12, block_cell h 13, block_cell h 14, block_cell h 15, V.c0, V.c1, V.c2, V.c3, V.c4, V.c5, V.c6, V.c7, V.c8, V.c9, V.c10⟩
set_option maxRecDepth 100000 in
set_option maxHeartbeats 16000000 in
theorem rholds15_in {nv cv rv : Value} {qs : List Nx} {cs : List TN.Cl} {row : TN.Rw} {w : World} {n : Nat} (hq : Qx (fun b => b < w.heap.size) w nv qs) (hn : n < qs.length) (hl : qs.length ≤ 1000) (hc : TN.ColsAt w cv cs) (hr : TN.RowAt w rv row) (hz : ∀ q ∈ qs, q.np.kind = 15 → Rsz row) (hvs : ∀ q ∈ qs, (St q.np.vs).size ≤ 1000000000000) : Calls Try.prog 20 #[.agg #[nv], .int .i64 (n : Int), cv, rv] w fun x w' => x = .returned (.bool (holdsX cs qs n row)) ∧ Below w.heap.size w w' := by
  have HF : Hid (holdsX cs qs n row = hsAt (okA (oks cs row qs) (n + 1) (n + 1)) (n : Int)) := hid (by
    unfold holdsX
    rw [okA_fin (by omega) (by rw [oks_len]; omega), decide_eq_true (by omega)]; rfl)
  have HOk := hid (fun k q (h : qs[k]? = some q) => oks_get (cs := cs) (row := row) h)
  have HOl := hid (oks_len cs row qs)
  generalize oks cs row qs = os at *
  generalize holdsX cs qs n row = R at *
  have hb1 : Below w.heap.size w (w.alloc (.cells #[nv] 24)) := (Below.refl _ _).alloc (Nat.le_refl _) _
  have hN : (w.alloc (.cells #[nv] 24)).heap[w.heap.size]? = some (.cells #[nv] 24 (0, 0)) := alloc_block _ _
  have y0 : (w.alloc (.cells #[nv] 24)).cell? ⟨w.heap.size, 0, none⟩ = some nv := block_cell hN 0
  obtain ⟨pn, cn, rfl, hc1, hc2⟩ := hq.sl.form
  obtain ⟨pr, cr, rfl, -⟩ := id hr
  obtain ⟨pc, cc, rfl, -⟩ := id hc
  have HQ := hid (qx_lt hq hb1)
  have HC := hid (hc.on hb1)
  have HR := hid ((row_lt hr).on hb1)
  have HZ := hid hz
  have HV := hid hvs
  have HL := hid hl
  have HN := hid hN
  have HB1 := hid hb1
  have nI : (n : Int) < qs.length := by omega
  have n0 : ¬ (n : Int) < 0 := by omega
  have nI2 : ¬ (n : Int) ≥ qs.length := by omega
  have n1000 : (n : Int) ≤ 1000 := by omega
  clear hb1 hN hq hc hr hz hvs hc2
  go_enter Try.func20, Try.ntmps20
  have hmk := fun W => make_bs n (by omega) W
  go_upto_region 3 with fail
  obtain ⟨S, hS⟩ : ∃ S, w.heap.size = S := ⟨_, rfl⟩
  have HS := hid hS
  have hs1 : (w.alloc (.cells #[.slice pn qs.length cn] 24)).heap.size = S + 1 := by simp [hS]
  rw [hS] at HN y0
  rw [hS]
  generalize w.alloc (.cells #[.slice pn qs.length cn] 24) = W1 at *
  have hb2 : Below W1.heap.size W1 (W1.alloc (.cells (Array.replicate (n + 1) (.bool false)) 4)) := (Below.refl _ _).alloc (Nat.le_refl _) _
  have hH : Hd (W1.alloc (.cells (Array.replicate (n + 1) (.bool false)) 4)) (S + 1) (okA os 0 (n + 1)) := by
    unfold Hd; rw [okA_zero, make_bools, List.toArray_replicate, ← hs1]; exact alloc_block W1 _
  have HH0 := hid hH
  have HB2 := hid (TN.below_on HB1.out hb2)
  have HN2 := hid (block_on HN.out hb2)
  have HC2 := hid (TN.SlAt.on (TN.SlAt.low HC.out (by decide) TN.cl_len) hb2)
  have HR2 := hid (HR.out.on hb2)
  have HQ2 := hid (HQ.out.kp (T := fun _ => False) (Kp.of hb2) (fun _ _ => id))
  rw [hs1] at HQ2
  have HS1 := hid hs1
  clear y0 hb2 hH HQ HC HR HN HB1 hS
  have Y1 := block_cell HN2.out
  go_upto_region 5 with fail
  clear hs1
  generalize W1.alloc (.cells (Array.replicate (n + 1) (.bool false)) 4) = W2 at *
  clear hmk Y1
  have HKb := hid (Kp.refl (fun b => b = S + 1) W2)
  go_loopw [10] (fun x wr => ∃ k : Nat, k ≤ n + 1 ∧ x = .int .i64 (k : Int) ∧ Hid (Hd wr (S + 1) (okA os k (n + 1))) ∧ Hid (Kp (fun b => b = S + 1) W2 wr)) (fun x _ => n + 1 - (intOf x).toNat)
  case atStart => exact ⟨0, by omega, rfl, HH0.out, HKb.out⟩
  case round =>
    obtain ⟨k, hk, rfl, HD, HK⟩ := hrel
    clear HH0 HKb
    have HNr := hid (HK.out.blk HN2.out (by omega))
    by_cases hlt : k ≤ n
    · have ltI : (k : Int) ≤ n := by omega
      have k0 : (0 : Int) ≤ k := by omega
      have kq : (k : Int) < qs.length := by omega
      obtain ⟨q, hqk⟩ : ∃ q, qs[k]? = some q := ⟨_, List.getElem?_eq_getElem (by omega)⟩
      have HOs := hid (HOk.out k q hqk)
      have hm := List.mem_of_getElem? hqk
      have HZq := hid (HZ.out q hm)
      have HVq := hid (HV.out q hm)
      have HQr := hid (HQ2.out.kp HK.out (fun b hb e => by omega))
      obtain ⟨g, og, rfl, hg, hcl⟩ := HQr.out.sl.at (j := k) hqk
      have HCl := hid hcl
      have HNx := hid (HQr.out.each q hm)
      have yN := block_cell HNr.out
      clear hcl hqk hm
      go_upto_region 8 with (first
        | (refine load_nx (q := q) rfl _ rfl rfl HCl.out ?_)
        | (refine store_nx (q := q) rfl _ _ rfl rfl rfl (nx_one HNx.out) (alloc_block wr _) rfl ?_; intro w4 h4 k4; have H4 := hid h4; have K4 := hid k4; clear h4 k4))
      have hb4 : Below wr.heap.size wr w4 := ((Below.refl wr.heap.size wr).alloc (Nat.le_refl _) (.cells zNd 51)).trans (K4.out.below (by simp) (fun k e => by omega))
      have HB4 := hid hb4
      have HL4 := hid (HNx.out.l.on hb4)
      obtain ⟨pl, cl, hlv, hl1, hl2⟩ := HNx.out.l.form
      have HLv := hid hlv
      have c0 : w4.cell? ⟨wr.heap.size, 0, none⟩ = some (.int .i64 q.np.kind) := block_cell H4.out 0
      unfold maxLen at hl2
      obtain ⟨nb, hnb⟩ : ∃ nb, wr.heap.size = nb := ⟨_, rfl⟩
      have HNb := hid hnb
      rw [hnb] at H4 c0
      rw [hnb]
      clear hb4 hnb hlv K4 HCl yN
      go_upto_if 41 with fail
      go_cut [12] from 39 to 41 (fun x wx => x = .int .i64 (want1 q.np.kind : Int) ∧ wx = w4)
      case first =>
        by_cases hk13 : q.np.kind = 13
        · have d1 : (q.np.kind == 13) = true := by simp [hk13]
          have HWt : Hid ((want1 q.np.kind : Int) = 1) := hid (by unfold want1; rw [if_pos hk13]; rfl)
          clear hk13
          go_wp2_with fail
          go_meet
          case rel => exact ⟨by rw [HWt.out], rfl⟩
        · have d1 : (q.np.kind == 13) = false := by simp [hk13]
          have HWt : Hid ((want1 q.np.kind : Int) = 2) := hid (by unfold want1; rw [if_neg hk13]; rfl)
          clear hk13
          go_wp2_with fail
          go_meet
          case rel => exact ⟨by rw [HWt.out], rfl⟩
      case rest =>
        obtain ⟨rfl, hwc⟩ := hcut
        replace hwc := hwc.symm
        subst hwc
        clear c0
        have c16 : w4.cell? ⟨nb, 16, none⟩ = some (.slice pl q.np.l.length cl) := (block_cell H4.out 16).trans (congrArg some HLv.out)
        have HLs := HL4
        rw [HLv.out] at HLs
        have HT0 : Hid (((q.np.l.length : Int) == (want1 q.np.kind : Int)) = blT q k 0) := hid (by rw [blT_zero, Bool.eq_iff_iff]; simp; omega)
        have HTn := hid (fun m e (h : q.np.l[m]? = some e) (hb : blT q k m = true) => blT_next h hb)
        have HTe := hid (fun m (h : q.np.l.length ≤ m ∨ blT q k m = false) (hm : m ≤ q.np.l.length) => blT_end (k := k) h hm)
        go_upto_block 2 with fail
        rw [HT0.out]
        obtain ⟨wo, hwo⟩ : ∃ W, W = wr := ⟨wr, rfl⟩
        subst hwo
        have lI : (q.np.l.length : Int) ≤ 9223372036854775807 := by omega
        go_cut [13, 14] from 47 to 71 (fun x y wx => x = .bool (blB q k) ∧ wx = w4)
        case first =>
          go_wp2_with fail
          go_loopw [13, 14] (fun bx mx wr2 => ∃ m : Nat, m ≤ q.np.l.length ∧ mx = .int .i64 (m : Int) ∧ bx = .bool (blT q k m) ∧ wr2 = w4) (fun _ mx _ => q.np.l.length - (intOf mx).toNat)
          case atStart => exact ⟨0, by omega, rfl, rfl, rfl⟩
          case round =>
            obtain ⟨m, hml, rfl, rfl, hwr⟩ := hrel
            replace hwr := hwr.symm
            subst hwr
            by_cases hlt2 : m < q.np.l.length
            · obtain ⟨e, he⟩ : ∃ e, q.np.l[m]? = some e := ⟨_, List.getElem?_eq_getElem hlt2⟩
              obtain ⟨gl, ol, hpe, -, hcl⟩ := HLs.out.at (j := m) he
              subst hpe
              have ck : w4.cell? ⟨gl, ol + m, none⟩ = some (.int .i64 e) := by have := hcl 0 _ rfl; rw [Nat.mul_one, Nat.add_zero] at this; exact this
              have m0 : (0 : Int) ≤ m := by omega
              have m1 : (m : Int) < q.np.l.length := by omega
              have HNx2 := hid (fun hb => HTn.out m e he hb)
              have HEnd := hid (fun hb => HTe.out m (.inr hb) hml)
              have HM := hid hlt2
              clear hcl he hlt2
              cases hb : blT q k m with
              | true =>
                by_cases e0 : 0 ≤ e
                · have e0g : e ≥ 0 := e0
                  by_cases e1 : e < (k : Int)
                  · have HB2 : Hid (blT q k (m + 1) = true) := hid (by rw [HNx2.out hb, decide_eq_true e0, decide_eq_true e1]; rfl)
                    go_wp2_with fail
                    go_roundw
                    case rel => exact ⟨m + 1, by have := HM.out; omega, by go_num, by rw [HB2.out], trivial⟩
                    case measure => have := HM.out; simp [intOf]; omega
                  · have HB2 : Hid (blT q k (m + 1) = false) := hid (by rw [HNx2.out hb, decide_eq_false e1, Bool.and_false])
                    go_wp2_with fail
                    go_roundw
                    case rel => exact ⟨m + 1, by have := HM.out; omega, by go_num, by rw [HB2.out], trivial⟩
                    case measure => have := HM.out; simp [intOf]; omega
                · have e0g : ¬ e ≥ 0 := e0
                  have HB2 : Hid (blT q k (m + 1) = false) := hid (by rw [HNx2.out hb, decide_eq_false e0, Bool.false_and])
                  go_wp2_with fail
                  go_roundw
                  case rel => exact ⟨m + 1, by have := HM.out; omega, by go_num, by rw [HB2.out], trivial⟩
                  case measure => have := HM.out; simp [intOf]; omega
              | false =>
                have HE2 := hid ((HEnd.out hb).symm.trans hb)
                go_wp2_with fail
                go_meet
                case rel => exact ⟨by rw [HE2.out], rfl⟩
            · obtain rfl : m = q.np.l.length := by omega
              have m1 : ¬ (q.np.l.length : Int) < q.np.l.length := by omega
              have HE2 := hid (HTe.out q.np.l.length (.inl (Nat.le_refl _)) (Nat.le_refl _))
              go_wp2_with fail
              go_meet
              case rel => exact ⟨by rw [HE2.out], rfl⟩
        case rest =>
          obtain ⟨rfl, hwc⟩ := hcut
          replace hwc := hwc.symm
          subst hwc
          have HCo := hid (tnSl_kp HC2.out HK.out (fun b hb e => by have := HS1.out; have := hb.2; omega))
          have HRo := hid (tnSl_kp HR2.out HK.out (fun b hb e => by have := HS.out; have : b < w.heap.size := hb; omega))
          have c1 : w4.cell? ⟨nb, 1, none⟩ = some (.string (St q.np.s)) := block_cell H4.out 1
          have HVa : Hid (valAt cs row q.np.s = if 0 ≤ TN.findC cs (St q.np.s) then row[(TN.findC cs (St q.np.s)).toNat]? else none) := hid rfl
          have HB4w : Hid (Below wo.heap.size wo w4) := hid HB4.out
          clear HTn HTe HT0 c16
          go_upto_region 17 with (first | (go_at_call 44; refine (TN.rfind_any (nm := St q.np.s) ((TN.SlAt.on HCo.out HB4w.out).imp (fun _ _ => trivial))).mono ?_; rintro e w5 ⟨rfl, hb⟩; have HB45 := hid hb; have HB5 := hid (TN.below_on HB4w.out hb); have H5 := hid (block_on H4.out hb); clear hb))
          clear c1
          generalize hfc : TN.findC cs (St q.np.s) = fc at *
          have HFc := hid hfc
          clear hfc
          have zI : (row.length : Int) ≤ 9223372036854775807 := by
            obtain ⟨p', c', e', ⟨-, -⟩, hm, -⟩ := HRo.out
            unfold maxLen at *
            cases e'; omega
          go_cut [16] from 76 to 83 (fun x wx => ∃ tb : Bool, x = .bool tb ∧ Hid (tb = true ↔ (0 ≤ fc ∧ fc < (row.length : Int))) ∧ wx = w5)
          case first =>
            by_cases e0 : 0 ≤ fc
            · have e0g : fc ≥ 0 := e0
              by_cases e1 : fc < (row.length : Int)
              · have HD1 : Hid ((true : Bool) = true ↔ (0 ≤ fc ∧ fc < (row.length : Int))) := hid ⟨fun _ => ⟨e0, e1⟩, fun _ => rfl⟩
                go_wp2_with fail
                go_meet
                case rel => exact ⟨_, rfl, hid (by simpa using HD1.out), rfl⟩
              · have HD1 : Hid ((false : Bool) = true ↔ (0 ≤ fc ∧ fc < (row.length : Int))) := hid ⟨fun h => (by cases h), fun h => absurd h.2 e1⟩
                go_wp2_with fail
                go_meet
                case rel => exact ⟨_, rfl, hid (by simpa using HD1.out), rfl⟩
            · have e0g : ¬ fc ≥ 0 := e0
              have HD1 : Hid ((false : Bool) = true ↔ (0 ≤ fc ∧ fc < (row.length : Int))) := hid ⟨fun h => (by cases h), fun h => absurd h.1 e0⟩
              go_wp2_with fail
              go_meet
              case rel => exact ⟨_, rfl, hid (by simpa using HD1.out), rfl⟩
          case rest =>
            obtain ⟨tb, rfl, HTb, hwc⟩ := hcut
            replace hwc := hwc.symm
            subst hwc
            have HD5 := hid (HD.out.on HB5.out)
            have HFn := hid (fun (W : World) (b : Bool) (hb : Below wo.heap.size wo W) (h : tst cs q k os row = b) => (⟨by rw [← okA_set (b := b) (by omega) (by rw [← h]; exact HOs.out)]; exact (HD.out.on hb).set k b, (HK.out.trans (Kp.of hb)).trans (Kp.set (T := fun b => b = S + 1) rfl _)⟩ : Hd (W.setCell ⟨S + 1, k, none⟩ (.bool b)) (S + 1) (okA os (k + 1) (n + 1)) ∧ Kp (fun b => b = S + 1) W2 (W.setCell ⟨S + 1, k, none⟩ (.bool b))))
            have HFs := hid (fun (W : World) (hb : Below wo.heap.size wo W) (h : tst cs q k os row = false) => (⟨by rw [okA_same (by omega) (by rw [← h]; exact HOs.out)]; exact HD.out.on hb, HK.out.trans (Kp.of hb)⟩ : Hd W (S + 1) (okA os (k + 1) (n + 1)) ∧ Kp (fun b => b = S + 1) W2 W))
            have c0 : w5.cell? ⟨nb, 0, none⟩ = some (.int .i64 q.np.kind) := block_cell H5.out 0
            have kI : (k : Int) < (n : Int) + 1 := by omega
            have kb := HD5.out.cell (a := k) (by rw [okA_len (by omega) (by have := HOl.out; omega)]; omega)
            have kf := block_frozen HD5.out k
            have HThere : Hid (∀ (h : 0 ≤ fc ∧ fc < (row.length : Int)), ∃ p v, fc = ((p : Nat) : Int) ∧ row[p]? = some v ∧ valAt cs row q.np.s = some v) := hid (fun h => by
              obtain ⟨v, hv⟩ : ∃ v, row[fc.toNat]? = some v := ⟨_, List.getElem?_eq_getElem (by omega)⟩
              exact ⟨fc.toNat, v, by omega, hv, by rw [HVa.out, if_pos h.1]; exact hv⟩)
            have HNone : Hid (¬ (0 ≤ fc ∧ fc < (row.length : Int)) → valAt cs row q.np.s = none) := hid (fun h => by
              rw [HVa.out]
              by_cases h0 : 0 ≤ fc
              · rw [if_pos h0]; exact List.getElem?_eq_none (by omega)
              · rw [if_neg h0])
            by_cases g14 : q.np.kind = 14
            · as_aux_lemma =>
                have b14 : (q.np.kind == 14) = true := by simp [g14]
                have HG := hid g14
                clear g14
                cases tb with
                | true =>
                  have hth := HTb.out.1 rfl
                  obtain ⟨p, v, rfl, hpv, hva⟩ := HThere.out hth
                  have HT2 : Hid (tst cs q k os row = cmpQ q v) := hid (tst_cmp HG.out hva)
                  have p0 : (0 : Int) ≤ p := hth.1
                  have p1 : (p : Int) < row.length := hth.2
                  have HPV := hid hpv
                  obtain ⟨brw, orw, crw, erw, hcv⟩ : ∃ b o c, Value.slice pr row.length cr = .slice (some ⟨b, o, none⟩) row.length c ∧ b < S ∧ TN.ValCells wo b (o + p * 11) v := by
                    obtain ⟨p', c', e', -, -, hx⟩ := HRo.out
                    obtain ⟨b, o, rfl, hQ, hj⟩ := hx (by intro e; subst e; simp at hpv)
                    exact ⟨b, o, _, e', by have := HS.out; have : b < w.heap.size := hQ.1; omega, TN.val_cells (hj p v hpv)⟩
                  cases erw
                  have hsa := SA.mk (q := q) (nb := nb) H5.out ⟨(HB5.out.cell (block_lt_of_cell hcv.2.c0)).trans hcv.2.c0, (HB5.out.cell (block_lt_of_cell hcv.2.c1)).trans hcv.2.c1, (HB5.out.cell (block_lt_of_cell hcv.2.c2)).trans hcv.2.c2, (HB5.out.cell (block_lt_of_cell hcv.2.c3)).trans hcv.2.c3, (HB5.out.cell (block_lt_of_cell hcv.2.c4)).trans hcv.2.c4, (HB5.out.cell (block_lt_of_cell hcv.2.c5)).trans hcv.2.c5, (HB5.out.cell (block_lt_of_cell hcv.2.c6)).trans hcv.2.c6, (HB5.out.cell (block_lt_of_cell hcv.2.c7)).trans hcv.2.c7, (HB5.out.cell (block_lt_of_cell hcv.2.c8)).trans hcv.2.c8, (HB5.out.cell (block_lt_of_cell hcv.2.c9)).trans hcv.2.c9, (HB5.out.cell (block_lt_of_cell hcv.2.c10)).trans hcv.2.c10⟩
                  have hg0 : S + 1 ≠ nb := by have := lt_of_block HD.out; have := HNb.out; omega
                  have hg1 : S + 1 ≠ brw := by have := hcv.1; omega
                  have HCall : Hid (∀ W, Calls Try.prog 47 #[.int .i64 q.np.n, .agg #[.int .i64 v.k, .int .i64 v.n, .string v.s, .int .i64 v.h0, .int .i64 v.h1, .int .i64 v.h2, .int .i64 v.h3, .int .i64 v.h4, .int .i64 v.h5, .int .i64 v.h6, .int .i64 v.h7], .agg #[.int .i64 q.np.vk, .int .i64 q.np.vn, .string (St q.np.vs), .int .i64 q.h0, .int .i64 q.h1, .int .i64 q.h2, .int .i64 q.h3, .int .i64 q.h4, .int .i64 q.h5, .int .i64 q.h6, .int .i64 q.h7]] W fun e w' => e = .returned (.bool (cmpQ q v)) ∧ Below W.heap.size W w') := hid (fun W => TN.rholds_any v.small (by have := HVq.out; unfold maxLen; omega))
                  have HSB : Hid (∀ W, Below w5.heap.size w5 W → SA nb brw (orw + p * 11) q v W) := hid (fun W hb => hsa.on hb)
                  have HDs : Hid (∀ W, Below w5.heap.size w5 W → W.cell? ⟨S + 1, k, none⟩ = some (.bool (hsAt (okA os k (n + 1)) k)) ∧ W.frozen? ⟨S + 1, k, none⟩ = false) := hid (fun W hb => ⟨(HD5.out.on hb).cell (a := k) (by rw [okA_len (by omega) (by have := HOl.out; omega)]; omega), block_frozen (HD5.out.on hb) k⟩)
                  generalize cmpQ q v = z at *
                  clear hcv hpv hva
                  go_upto_region 20 with fail
                  clear c0
                  go_region_held3 (SA nb brw (orw + p * 11) q v) (((repeat (first | (with_reducible refine SA.d ?_) | (with_reducible refine SA.s hg0 hg1 ?_))); (with_reducible assumption)))
                    (first
                    | (go_at_call 47; refine (HCall.out _).mono ?_; rintro e w6 ⟨rfl, hb⟩; have HB6 := hid ((Below.refl w5.heap.size w5).drew.trans hb); have hS6 := HSB.out _ HB6.out; have HB6w := hid (TN.below_on HB5.out HB6.out); obtain ⟨kb6, kf6⟩ := HDs.out _ HB6.out; clear hb))
                  all_goals
                    go_wp2_with fail
                    exact ⟨⟨k + 1, by omega, by go_num, (HFn.out _ _ HB6w.out HT2.out).1, (HFn.out _ _ HB6w.out HT2.out).2⟩, by simp [intOf]; omega⟩
                | false =>
                  have hth : ¬ (0 ≤ fc ∧ fc < (row.length : Int)) := fun h => by have := HTb.out.2 h; cases this
                  have HT2 : Hid (tst cs q k os row = false) := hid (tst_cmp0 HG.out (HNone.out hth))
                  go_upto_region 20 with fail
                  have hg0 : S + 1 ≠ nb := by have := lt_of_block HD.out; have := HNb.out; omega
                  have c0' : A1 ⟨nb, 0, none⟩ (.int .i64 q.np.kind) w5 := c0
                  clear c0
                  go_region
                  all_goals
                    go_wp2_with fail
                    exact ⟨⟨k + 1, by omega, by go_num, (HFn.out _ _ (TN.below_on HB5.out (Below.refl w5.heap.size w5).drew) HT2.out).1, (HFn.out _ _ (TN.below_on HB5.out (Below.refl w5.heap.size w5).drew) HT2.out).2⟩, by simp [intOf]; omega⟩
            by_cases g15 : q.np.kind = 15
            · as_aux_lemma =>
                have b15 : (q.np.kind == 15) = true := by simp [g15]
                have b14 : (q.np.kind == 14) = false := by simp [g14]
                have HG := hid g15
                have HRz := hid (HZq.out g15)
                clear g14 g15
                cases tb with
                | true =>
                  have hth := HTb.out.1 rfl
                  obtain ⟨p, v, rfl, hpv, hva⟩ := HThere.out hth
                  have HT2 : Hid (tst cs q k os row = hasQ q v) := hid (tst_has HG.out hva)
                  have p0 : (0 : Int) ≤ p := hth.1
                  have p1 : (p : Int) < row.length := hth.2
                  have HPV := hid hpv
                  obtain ⟨brw, orw, crw, erw, hcv⟩ : ∃ b o c, Value.slice pr row.length cr = .slice (some ⟨b, o, none⟩) row.length c ∧ b < S ∧ TN.ValCells wo b (o + p * 11) v := by
                    obtain ⟨p', c', e', -, -, hx⟩ := HRo.out
                    obtain ⟨b, o, rfl, hQ, hj⟩ := hx (by intro e; subst e; simp at hpv)
                    exact ⟨b, o, _, e', by have := HS.out; have : b < w.heap.size := hQ.1; omega, TN.val_cells (hj p v hpv)⟩
                  cases erw
                  have hsa := SA.mk (q := q) (nb := nb) H5.out ⟨(HB5.out.cell (block_lt_of_cell hcv.2.c0)).trans hcv.2.c0, (HB5.out.cell (block_lt_of_cell hcv.2.c1)).trans hcv.2.c1, (HB5.out.cell (block_lt_of_cell hcv.2.c2)).trans hcv.2.c2, (HB5.out.cell (block_lt_of_cell hcv.2.c3)).trans hcv.2.c3, (HB5.out.cell (block_lt_of_cell hcv.2.c4)).trans hcv.2.c4, (HB5.out.cell (block_lt_of_cell hcv.2.c5)).trans hcv.2.c5, (HB5.out.cell (block_lt_of_cell hcv.2.c6)).trans hcv.2.c6, (HB5.out.cell (block_lt_of_cell hcv.2.c7)).trans hcv.2.c7, (HB5.out.cell (block_lt_of_cell hcv.2.c8)).trans hcv.2.c8, (HB5.out.cell (block_lt_of_cell hcv.2.c9)).trans hcv.2.c9, (HB5.out.cell (block_lt_of_cell hcv.2.c10)).trans hcv.2.c10⟩
                  have hg0 : S + 1 ≠ nb := by have := lt_of_block HD.out; have := HNb.out; omega
                  have hg1 : S + 1 ≠ brw := by have := hcv.1; omega
                  have hsz : v.s.size ≤ 1000000000000 := by have := HRz.out v (List.mem_of_getElem? hpv); omega
                  have HCall : Hid (∀ W, Calls Try.prog 48 #[.string (St q.np.vs), .string v.s] W fun e w' => e = .returned (.bool (Lib.contains v.s.data.toList q.np.vs)) ∧ w' = W) := hid (fun W => part_any v.s (St q.np.vs) hsz HVq.out W)
                  have HSB : Hid (∀ W, Below w5.heap.size w5 W → SA nb brw (orw + p * 11) q v W) := hid (fun W hb => hsa.on hb)
                  have HDs : Hid (∀ W, Below w5.heap.size w5 W → W.cell? ⟨S + 1, k, none⟩ = some (.bool (hsAt (okA os k (n + 1)) k)) ∧ W.frozen? ⟨S + 1, k, none⟩ = false) := hid (fun W hb => ⟨(HD5.out.on hb).cell (a := k) (by rw [okA_len (by omega) (by have := HOl.out; omega)]; omega), block_frozen (HD5.out.on hb) k⟩)
                  clear hcv hpv hva hsz
                  by_cases hk2 : v.k = 2
                  · have b2 : (v.k == 2) = true := by simp [hk2]
                    have HT3 : Hid (tst cs q k os row = Lib.contains v.s.data.toList q.np.vs) := hid (by rw [HT2.out]; unfold hasQ; rw [decide_eq_true hk2, Bool.true_and])
                    clear hk2
                    generalize Lib.contains v.s.data.toList q.np.vs = z at *
                    go_upto_region 22 with fail
                    clear c0
                    go_region_held3 (SA nb brw (orw + p * 11) q v) (((repeat (first | (with_reducible refine SA.d ?_) | (with_reducible refine SA.s hg0 hg1 ?_))); (with_reducible assumption)))
                    (first
                    | (go_at_call 48; refine (HCall.out _).mono ?_; rintro e w6 ⟨rfl, hb⟩; have HB6 : Hid (Below w5.heap.size w5 w6) := hid (by rw [hb]; exact (Below.refl w5.heap.size w5).drew); have hS6 := HSB.out _ HB6.out; have HB6w := hid (TN.below_on HB5.out HB6.out); obtain ⟨kb6, kf6⟩ := HDs.out _ HB6.out; clear hb))
                    all_goals
                      go_wp2_with fail
                      exact ⟨⟨k + 1, by omega, by go_num, (HFn.out _ _ HB6w.out HT3.out).1, (HFn.out _ _ HB6w.out HT3.out).2⟩, by simp [intOf]; omega⟩
                  · have b2 : (v.k == 2) = false := by simp [hk2]
                    have HT3 : Hid (tst cs q k os row = false) := hid (by rw [HT2.out]; unfold hasQ; rw [decide_eq_false hk2, Bool.false_and])
                    clear hk2
                    go_upto_region 22 with fail
                    clear c0
                    have ck := hsa.2.2.2.2.2.2.2.2.2.2.2.2.1
                    go_region
                    all_goals
                      go_wp2_with fail
                      exact ⟨⟨k + 1, by omega, by go_num, (HFn.out _ _ (TN.below_on HB5.out (Below.refl w5.heap.size w5).drew) HT3.out).1, (HFn.out _ _ (TN.below_on HB5.out (Below.refl w5.heap.size w5).drew) HT3.out).2⟩, by simp [intOf]; omega⟩
                | false =>
                  have hth : ¬ (0 ≤ fc ∧ fc < (row.length : Int)) := fun h => by have := HTb.out.2 h; cases this
                  have HT2 : Hid (tst cs q k os row = false) := hid (tst_has0 HG.out (HNone.out hth))
                  go_upto_region 22 with fail
                  have hg0 : S + 1 ≠ nb := by have := lt_of_block HD.out; have := HNb.out; omega
                  have c0' : A1 ⟨nb, 0, none⟩ (.int .i64 q.np.kind) w5 := c0
                  clear c0
                  go_region
                  all_goals
                    go_wp2_with fail
                    exact ⟨⟨k + 1, by omega, by go_num, (HFn.out _ _ (TN.below_on HB5.out (Below.refl w5.heap.size w5).drew) HT2.out).1, (HFn.out _ _ (TN.below_on HB5.out (Below.refl w5.heap.size w5).drew) HT2.out).2⟩, by simp [intOf]; omega⟩
            have b14 : (q.np.kind == 14) = false := by simp [g14]
            have b15 : (q.np.kind == 15) = false := by simp [g15]
            have c16 : w5.cell? ⟨nb, 16, none⟩ = some (.slice pl q.np.l.length cl) := (block_cell H5.out 16).trans (congrArg some HLv.out)
            have HLs5 := hid (HLs.out.on HB45.out)
            have HAt : Hid (∀ j e, blB q k = true → q.np.l[j]? = some e → ∃ a : Nat, e = (a : Int) ∧ a < k ∧ w5.cell? ⟨S + 1, a, none⟩ = some (.bool (hsAt os a)) ∧ ∃ gl ol, pl = some ⟨gl, ol, none⟩ ∧ w5.cell? ⟨gl, ol + j, none⟩ = some (.int .i64 (a : Int)) ∧ j < q.np.l.length) := hid (fun j e hb he => by
              obtain ⟨h0, h1⟩ := blB_mem hb he
              obtain ⟨gl, ol, hpe, -, hcl⟩ := HLs5.out.at (j := j) he
              have hcj := hcl 0 _ rfl
              rw [Nat.mul_one, Nat.add_zero] at hcj
              have ea : e = ((e.toNat : Nat) : Int) := by omega
              refine ⟨e.toNat, ea, by omega, ?_, gl, ol, hpe, by rw [← ea]; exact hcj, (List.getElem?_eq_some_iff.1 he).1⟩
              rw [HD5.out.cell (a := e.toNat) (by rw [okA_len (by omega) (by have := HOl.out; omega)]; omega), okA_at (by omega) (by omega) (by have := HOl.out; omega)])
            by_cases g13 : q.np.kind = 13
            · as_aux_lemma =>
                have b13 : (q.np.kind == 13) = true := by simp [g13]
                have HT := hid (tst_not (cs := cs) (q := q) (k := k) (hs := os) (row := row) g13)
                have HN13 := hid (g13 : q.np.kind = 13)
                clear g13 g14 g15
                cases hbl : blB q k with
                | false =>
                  have HT2 : Hid (tst cs q k os row = false) := hid (by rw [HT.out, hbl]; rfl)
                  go_wp2_with fail
                  exact ⟨⟨k + 1, by omega, by go_num, (HFn.out _ _ HB5.out HT2.out).1, (HFn.out _ _ HB5.out HT2.out).2⟩, by simp [intOf]; omega⟩
                | true =>
                  have hl1 : q.np.l.length = 1 := by
                    have := hbl
                    unfold blB at this
                    rw [Bool.and_eq_true] at this
                    have h2 := of_decide_eq_true this.1
                    unfold want1 at h2
                    rw [if_pos HN13.out] at h2; exact h2
                  obtain ⟨e0, he0⟩ : ∃ e, q.np.l[0]? = some e := ⟨_, List.getElem?_eq_getElem (by omega)⟩
                  obtain ⟨a, rfl, ha, cka, gl, ol, rfl, cl0, -⟩ := HAt.out 0 e0 hbl he0
                  have HT2 : Hid (tst cs q k os row = !hsAt os (a : Int)) := hid (by rw [HT.out, hbl, List.getD_eq_getElem?_getD, he0]; rfl)
                  rw [Nat.add_zero] at cl0
                  have lI1 : (0 : Int) < q.np.l.length := by omega
                  have aI : (a : Int) < (n : Int) + 1 := by omega
                  have a0 : (0 : Int) ≤ a := by omega
                  clear he0
                  generalize hsAt os (a : Int) = z at *
                  cases z with
                  | true =>
                    go_wp2_with fail
                    exact ⟨⟨k + 1, by omega, by go_num, (HFn.out _ _ HB5.out HT2.out).1, (HFn.out _ _ HB5.out HT2.out).2⟩, by simp [intOf]; omega⟩
                  | false =>
                    go_wp2_with fail
                    exact ⟨⟨k + 1, by omega, by go_num, (HFn.out _ _ HB5.out HT2.out).1, (HFn.out _ _ HB5.out HT2.out).2⟩, by simp [intOf]; omega⟩
            by_cases g11 : q.np.kind = 11
            · as_aux_lemma =>
                have b11 : (q.np.kind == 11) = true := by simp [g11]
                have b13 : (q.np.kind == 13) = false := by simp [g13]
                have HT := hid (tst_and (cs := cs) (q := q) (k := k) (hs := os) (row := row) g11)
                have HN13 := hid (g11 : q.np.kind = 11)
                clear g11 g13 g14 g15
                cases hbl : blB q k with
                | false =>
                  have HT2 : Hid (tst cs q k os row = false) := hid (by rw [HT.out, hbl]; rfl)
                  go_wp2_with fail
                  exact ⟨⟨k + 1, by omega, by go_num, (HFn.out _ _ HB5.out HT2.out).1, (HFn.out _ _ HB5.out HT2.out).2⟩, by simp [intOf]; omega⟩
                | true =>
                  have hl1 : q.np.l.length = 2 := two_of hbl (by have := HN13.out; omega)
                  obtain ⟨e0, he0⟩ : ∃ e, q.np.l[0]? = some e := ⟨_, List.getElem?_eq_getElem (by omega)⟩
                  obtain ⟨e1, he1⟩ : ∃ e, q.np.l[1]? = some e := ⟨_, List.getElem?_eq_getElem (by omega)⟩
                  obtain ⟨a, rfl, ha, cka, gl, ol, rfl, cl0, -⟩ := HAt.out 0 e0 hbl he0
                  obtain ⟨b, rfl, hb, ckb, gl', ol', e', cl1, -⟩ := HAt.out 1 e1 hbl he1
                  cases e'
                  have HT2 : Hid (tst cs q k os row = (hsAt os (a : Int) && hsAt os (b : Int))) := hid (by rw [HT.out, hbl, List.getD_eq_getElem?_getD, List.getD_eq_getElem?_getD, he0, he1]; rfl)
                  rw [Nat.add_zero] at cl0
                  have lI1 : (0 : Int) < q.np.l.length := by omega
                  have lI2 : (1 : Int) < q.np.l.length := by omega
                  have aI : (a : Int) < (n : Int) + 1 := by omega
                  have a0 : (0 : Int) ≤ a := by omega
                  have bI : (b : Int) < (n : Int) + 1 := by omega
                  have b0 : (0 : Int) ≤ b := by omega
                  clear he0 he1
                  generalize hsAt os (a : Int) = z at *
                  generalize hsAt os (b : Int) = y at *
                  cases z with
                  | true =>
                    cases y with
                    | true =>
                      go_wp2_with fail
                      exact ⟨⟨k + 1, by omega, by go_num, (HFn.out _ _ HB5.out HT2.out).1, (HFn.out _ _ HB5.out HT2.out).2⟩, by simp [intOf]; omega⟩
                    | false =>
                      go_wp2_with fail
                      exact ⟨⟨k + 1, by omega, by go_num, (HFn.out _ _ HB5.out HT2.out).1, (HFn.out _ _ HB5.out HT2.out).2⟩, by simp [intOf]; omega⟩
                  | false =>
                    cases y with
                    | true =>
                      go_wp2_with fail
                      exact ⟨⟨k + 1, by omega, by go_num, (HFn.out _ _ HB5.out HT2.out).1, (HFn.out _ _ HB5.out HT2.out).2⟩, by simp [intOf]; omega⟩
                    | false =>
                      go_wp2_with fail
                      exact ⟨⟨k + 1, by omega, by go_num, (HFn.out _ _ HB5.out HT2.out).1, (HFn.out _ _ HB5.out HT2.out).2⟩, by simp [intOf]; omega⟩
            by_cases g12 : q.np.kind = 12
            · as_aux_lemma =>
                have b12 : (q.np.kind == 12) = true := by simp [g12]
                have b13 : (q.np.kind == 13) = false := by simp [g13]
                have b11 : (q.np.kind == 11) = false := by simp [g11]
                have HT := hid (tst_or (cs := cs) (q := q) (k := k) (hs := os) (row := row) g12)
                have HN13 := hid (g12 : q.np.kind = 12)
                clear g12 g13 g11 g14 g15
                cases hbl : blB q k with
                | false =>
                  have HT2 : Hid (tst cs q k os row = false) := hid (by rw [HT.out, hbl]; rfl)
                  go_wp2_with fail
                  exact ⟨⟨k + 1, by omega, by go_num, (HFn.out _ _ HB5.out HT2.out).1, (HFn.out _ _ HB5.out HT2.out).2⟩, by simp [intOf]; omega⟩
                | true =>
                  have hl1 : q.np.l.length = 2 := two_of hbl (by have := HN13.out; omega)
                  obtain ⟨e0, he0⟩ : ∃ e, q.np.l[0]? = some e := ⟨_, List.getElem?_eq_getElem (by omega)⟩
                  obtain ⟨e1, he1⟩ : ∃ e, q.np.l[1]? = some e := ⟨_, List.getElem?_eq_getElem (by omega)⟩
                  obtain ⟨a, rfl, ha, cka, gl, ol, rfl, cl0, -⟩ := HAt.out 0 e0 hbl he0
                  obtain ⟨b, rfl, hb, ckb, gl', ol', e', cl1, -⟩ := HAt.out 1 e1 hbl he1
                  cases e'
                  have HT2 : Hid (tst cs q k os row = (hsAt os (a : Int) || hsAt os (b : Int))) := hid (by rw [HT.out, hbl, List.getD_eq_getElem?_getD, List.getD_eq_getElem?_getD, he0, he1]; rfl)
                  rw [Nat.add_zero] at cl0
                  have lI1 : (0 : Int) < q.np.l.length := by omega
                  have lI2 : (1 : Int) < q.np.l.length := by omega
                  have aI : (a : Int) < (n : Int) + 1 := by omega
                  have a0 : (0 : Int) ≤ a := by omega
                  have bI : (b : Int) < (n : Int) + 1 := by omega
                  have b0 : (0 : Int) ≤ b := by omega
                  clear he0 he1
                  generalize hsAt os (a : Int) = z at *
                  generalize hsAt os (b : Int) = y at *
                  cases z with
                  | true =>
                    cases y with
                    | true =>
                      go_wp2_with fail
                      exact ⟨⟨k + 1, by omega, by go_num, (HFn.out _ _ HB5.out HT2.out).1, (HFn.out _ _ HB5.out HT2.out).2⟩, by simp [intOf]; omega⟩
                    | false =>
                      go_wp2_with fail
                      exact ⟨⟨k + 1, by omega, by go_num, (HFn.out _ _ HB5.out HT2.out).1, (HFn.out _ _ HB5.out HT2.out).2⟩, by simp [intOf]; omega⟩
                  | false =>
                    cases y with
                    | true =>
                      go_wp2_with fail
                      exact ⟨⟨k + 1, by omega, by go_num, (HFn.out _ _ HB5.out HT2.out).1, (HFn.out _ _ HB5.out HT2.out).2⟩, by simp [intOf]; omega⟩
                    | false =>
                      go_wp2_with fail
                      exact ⟨⟨k + 1, by omega, by go_num, (HFn.out _ _ HB5.out HT2.out).1, (HFn.out _ _ HB5.out HT2.out).2⟩, by simp [intOf]; omega⟩
            have b13 : (q.np.kind == 13) = false := by simp [g13]
            have b11 : (q.np.kind == 11) = false := by simp [g11]
            have b12 : (q.np.kind == 12) = false := by simp [g12]
            have HT2 : Hid (tst cs q k os row = false) := hid (tst_else g11 g12 g13 g14 g15)
            clear g11 g12 g13 g14 g15
            go_wp2_with fail
            exact ⟨⟨k + 1, by omega, by go_num, (HFs.out _ HB5.out HT2.out).1, (HFs.out _ HB5.out HT2.out).2⟩, by simp [intOf]; omega⟩
    · obtain rfl : k = n + 1 := by omega
      have ltI : ¬ ((n + 1 : Nat) : Int) ≤ n := by omega
      have ltI2 : ¬ (n : Int) + 1 ≤ n := by omega
      have kc := HD.out.cell (a := n) (by rw [okA_len (by omega) (by have := HOl.out; omega)]; omega)
      have kI : (n : Int) < (n : Int) + 1 := by omega
      have HBr := hid (HB2.out.trans (HK.out.below (B := w.heap.size) HB2.out.size (fun b e => by have := HS.out; omega)))
      rw [← HF.out] at kc
      go_wp2_with fail
      go_ret
      exact ⟨rfl, HBr.out⟩
set_option maxRecDepth 100000 in
theorem rholds15_out {nv cv rv : Value} {qs : List Nx} {cs : List TN.Cl} {row : TN.Rw} {i : Int} {Q : Nat → Prop} {w : World} (hq : Qx Q w nv qs) (hi : i < 0 ∨ (qs.length : Int) ≤ i) : Calls Try.prog 20 #[.agg #[nv], .int .i64 i, cv, rv] w fun x w' => x = .returned (.bool (holdsX cs qs i row)) ∧ Below w.heap.size w w' := by
  rw [holdsX_out hi]
  obtain ⟨pn, cn, rfl, hc1, hc2⟩ := hq.sl.form
  unfold maxLen at hc2
  have hN : (w.alloc (.cells #[.slice pn qs.length cn] 24)).heap[w.heap.size]? = some (.cells #[.slice pn qs.length cn] 24 (0, 0)) := alloc_block _ _
  have y0 := block_cell hN
  have HB := hid ((Below.refl w.heap.size w).alloc (Nat.le_refl _) (.cells #[.slice pn qs.length cn] 24))
  clear hN hq
  by_cases h0 : i < 0
  · go_enter Try.func20, Try.ntmps20
    go_wp2_with fail
    go_ret
    exact ⟨rfl, HB.out⟩
  · have h1 : i ≥ (qs.length : Int) := by omega
    clear hi
    go_enter Try.func20, Try.ntmps20
    go_wp2_with fail
    go_ret
    exact ⟨rfl, HB.out⟩
theorem rholds15_any {nv cv rv : Value} {qs : List Nx} {cs : List TN.Cl} {row : TN.Rw} {w : World} (i : Int) (hq : Qx (fun b => b < w.heap.size) w nv qs) (hl : qs.length ≤ 1000) (hc : TN.ColsAt w cv cs) (hr : TN.RowAt w rv row) (hz : ∀ q ∈ qs, q.np.kind = 15 → Rsz row) (hvs : ∀ q ∈ qs, (St q.np.vs).size ≤ 1000000000000) : Calls Try.prog 20 #[.agg #[nv], .int .i64 i, cv, rv] w fun x w' => x = .returned (.bool (holdsX cs qs i row)) ∧ Below w.heap.size w w' := by
  by_cases h : i < 0 ∨ (qs.length : Int) ≤ i
  · exact rholds15_out hq h
  · obtain ⟨n, rfl⟩ : ∃ n : Nat, i = n := ⟨i.toNat, by omega⟩
    exact rholds15_in hq (by omega) hl hc hr hz hvs
end Go.Proofs.Ytcidijjbcebcbaa.PD
