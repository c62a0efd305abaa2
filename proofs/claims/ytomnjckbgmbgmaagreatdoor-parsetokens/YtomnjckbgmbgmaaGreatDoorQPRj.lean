/-
  What keep, align, group and top do.
-/
import Derived.Test.YtomnjckbgmbgmaaGreatDoorQPRi
namespace Go.Proofs.YtomnjckbgmbgmaaGreatDoor
open Go.RowKit Go.Joins

section
variable {B : Nat} {ts : List Tp} {w : World} {rb : Nat} {tv sv : Value} {o i : Nat} {qs : List Nd}
theorem Own.nd {α : Type} {enc : α → List Value} {k e n g : Nat} {w' : World} {v : Value} {xs : List α} {cs : Array Value} {fz : Nat × Nat} (h : Own enc k e n w v xs) (hg : w.heap[g]? = some (.cells cs 52 fz)) (hk : Kp (fun k => k = g) w w') (he : e ≠ 52) : Own enc k e n w' v xs :=
  h.kpk hk (fun b hT c t fz hc => by subst hT; rw [hg] at hc; cases hc; exact fun e' => he e'.symm)
abbrev one3 (w : World) : Value := .slice (some ⟨w.heap.size, 0, none⟩) 1 1
theorem own_one {W : World} {B : Nat} (hB : B ≤ W.heap.size) (a : Int) : Own int1 1 3 B (W.alloc (.cells #[.int .i64 a] 3)) (one3 W) [a] := own_ints W [a] (by simp) hB
theorem nd_all {q : Nd} (h1 : q.lv.oneCell' = true) (h2 : q.nv.oneCell' = true) (h3 : q.gv.oneCell' = true) : q.cells.toArray.all (·.oneCell') = true := by
  apply all_oneCell_toArray
  intro v hv
  simp [Nd.cells] at hv
  rcases hv with rfl | rfl | rfl | rfl | rfl | rfl | rfl | rfl | rfl | rfl | rfl | rfl | rfl | rfl | rfl | rfl | rfl | rfl | rfl <;> first | rfl | assumption
theorem nd_set17 {W : World} {g : Nat} {n : Np} {lv nv gv : Value} (h : W.heap[g]? = some (.cells (⟨n, lv, nv, gv⟩ : Nd).cells.toArray 52 (0, 0))) (v : Value) (l : List (List UInt8)) : (W.setCell ⟨g, 17, none⟩ v).heap[g]? = some (.cells (⟨{ n with names := l }, lv, v, gv⟩ : Nd).cells.toArray 52 (0, 0)) := block_set h 17 v
theorem nd_set18 {W : World} {g : Nat} {n : Np} {lv nv gv : Value} (h : W.heap[g]? = some (.cells (⟨n, lv, nv, gv⟩ : Nd).cells.toArray 52 (0, 0))) (v : Value) (l : List (Int × List UInt8)) : (W.setCell ⟨g, 18, none⟩ v).heap[g]? = some (.cells (⟨{ n with aggs := l }, lv, nv, v⟩ : Nd).cells.toArray 52 (0, 0)) := block_set h 18 v
theorem nd_set1 {W : World} {g : Nat} {n : Np} {lv nv gv : Value} (h : W.heap[g]? = some (.cells (⟨n, lv, nv, gv⟩ : Nd).cells.toArray 52 (0, 0))) (s : List UInt8) : (W.setCell ⟨g, 1, none⟩ (.string (St s))).heap[g]? = some (.cells (⟨{ n with s := s }, lv, nv, gv⟩ : Nd).cells.toArray 52 (0, 0)) := block_set h 1 (.string (St s))
theorem nd_c17 {W : World} {g : Nat} {n : Np} {lv nv gv : Value} (h : W.heap[g]? = some (.cells (⟨n, lv, nv, gv⟩ : Nd).cells.toArray 52 (0, 0))) : W.cell? ⟨g, 17, none⟩ = some nv := block_cell h 17
theorem nd_c18 {W : World} {g : Nat} {n : Np} {lv nv gv : Value} (h : W.heap[g]? = some (.cells (⟨n, lv, nv, gv⟩ : Nd).cells.toArray 52 (0, 0))) : W.cell? ⟨g, 18, none⟩ = some gv := block_cell h 18
theorem nd_c1 {W : World} {g : Nat} {n : Np} {lv nv gv : Value} (h : W.heap[g]? = some (.cells (⟨n, lv, nv, gv⟩ : Nd).cells.toArray 52 (0, 0))) : W.cell? ⟨g, 1, none⟩ = some (.string (St n.s)) := block_cell h 1
set_option maxRecDepth 100000 in
set_option maxHeartbeats 2000000 in
theorem keep_of : PSc 113 B ts rb tv o (keepS ts) := by
  intro w sv i qs rows h
  have HB0 : Hid (Below w.heap.size w (w.alloc (.cells zNd 52))) := (Below.refl _ _).alloc (Nat.le_refl _) _
  have HZ := hid (alloc_block w (.cells zNd 52))
  have HQ0 := hid (h.on HB0.out)
  have HR0 := hid h
  have hrl := h.lt
  have hmf := mkf
  have HSz : Hid (w.heap.size < (w.alloc (.cells zNd 52)).heap.size) := by show _ < _; simp
  generalize hW : w.alloc (.cells zNd 52) = w1 at *
  have HW := hid hW
  clear h hW
  have HOi := hid (own_one (W := w1) HQ0.out.B_le (rows : Int))
  have HQa := hid (HQ0.out.on ((Below.refl _ _).alloc (Nat.le_refl _) (.cells #[.int .i64 (rows : Int)] 3)))
  have HKa := hid ((Kp.of (T := fun k => k = rb) HB0.out).trans (Kp.alloc _ w1 (.cells #[.int .i64 (rows : Int)] 3)))
  have HZa := hid ((Kp.alloc (fun _ => False) w1 (.cells #[.int .i64 (rows : Int)] 3)).blk HZ.out id)
  go_enter Tryz.func113, Tryz.ntmps113
  go_upto_region 1 with fail
  rw [HW.out]
  go_wp2_with (first
    | (go_at_call 139; refine (lists_any HQa.out).mono ?_; rintro e w2 ⟨hk, ⟨j, c, hr, rfl⟩ | ⟨l, j, v, hr, rfl, hv, hq⟩⟩; (focus (go_wp2_with fail; exact ⟨rfl, P2.bad (HKa.out.trans hk).r (by simp only [keepS, hr, Rs.and])⟩)); have HK2 := hid (HKa.out.trans hk); have HQ2 := hid hq; have HR2 := hid hr; have HV2 := hid (Own.le hv (Nat.le_trans HR0.out.B_le HKa.out.size)); have HO2 := hid (HOi.out.rdr HQa.out hk (by decide)); have HZ2 := hid (hk.blk HZa.out (fun e => by omega)); obtain ⟨pv, cv, rfl⟩ := Own.form hv; clear hk hq hr hv)
    | (refine store_nd (q := ⟨{ laidN 3 rows with names := l }, one3 w1, .slice pv l.length cv, .slice none 0 0⟩) rfl _ _ rfl rfl rfl (nd_all rfl rfl rfl) HZ2.out rfl ?_; intro w4 h4 k4; have H4 := hid h4; have K4 := hid (box_end (q := ⟨{ laidN 3 rows with names := l }, one3 w1, .slice pv l.length cv, .slice none 0 0⟩) HR0.out HK2.out.r HQ2.out (At.refl w1 sv) HSz.out (Nat.le_refl _) HZ2.out k4 ⟨HO2.out, HV2.out, Own.nil _ _ _ _ _⟩); clear h4 k4))
  exact ret_nd rfl rfl H4.out rfl rfl ⟨K4.out.1, .inr ⟨({ laidN 3 rows with names := l }, qs.map (·.np)), j, _, sv, qs, by simp only [keepS, HR2.out, Rs.and], rfl, ⟨_, rfl, rfl, K4.out.2.2.1⟩, K4.out.2.1, rfl, K4.out.2.2.2⟩⟩
set_option maxRecDepth 100000 in
set_option maxHeartbeats 2000000 in
theorem align_of : PSc 114 B ts rb tv o (alignS ts) := by
  intro w sv i qs rows h
  have HB0 : Hid (Below w.heap.size w (w.alloc (.cells zNd 52))) := (Below.refl _ _).alloc (Nat.le_refl _) _
  have HZ := hid (alloc_block w (.cells zNd 52))
  have HQ0 := hid (h.on HB0.out)
  have HR0 := hid h
  have hrl := h.lt
  have hmf := mkf
  have HSz : Hid (w.heap.size < (w.alloc (.cells zNd 52)).heap.size) := by show _ < _; simp
  generalize hW : w.alloc (.cells zNd 52) = w1 at *
  have HW := hid hW
  clear h hW
  have HOi := hid (own_one (W := w1) HQ0.out.B_le (rows : Int))
  have HQa := hid (HQ0.out.on ((Below.refl _ _).alloc (Nat.le_refl _) (.cells #[.int .i64 (rows : Int)] 3)))
  have HKa := hid ((Kp.of (T := fun k => k = rb) HB0.out).trans (Kp.alloc _ w1 (.cells #[.int .i64 (rows : Int)] 3)))
  have HZa := hid ((Kp.alloc (fun _ => False) w1 (.cells #[.int .i64 (rows : Int)] 3)).blk HZ.out id)
  go_enter Tryz.func114, Tryz.ntmps114
  go_upto_region 1 with fail
  rw [HW.out]
  go_wp2_with (first
    | (go_at_call 90; refine (number_any HQa.out).mono ?_; rintro e w2 ⟨hk, ⟨j, c, hr, rfl⟩ | ⟨n, j, v, hr, rfl, rfl, hq⟩⟩; (focus (go_wp2_with fail; exact ⟨rfl, P2.bad (HKa.out.trans hk).r (by simp only [alignS, hr, Rs.and])⟩)); have HK2 := hid (HKa.out.trans hk); have HQ2 := hid hq; have HR2 := hid hr; have HO2 := hid (HOi.out.rdr HQa.out hk (by decide)); have HZ2 := hid (hk.blk HZa.out (fun e => by omega)); clear hk hq hr)
    | (refine store_nd (q := ⟨{ laidN 4 rows with n := n }, one3 w1, .slice none 0 0, .slice none 0 0⟩) rfl _ _ rfl rfl rfl (nd_all rfl rfl rfl) HZ2.out rfl ?_; intro w4 h4 k4; have H4 := hid h4; have K4 := hid (box_end (q := ⟨{ laidN 4 rows with n := n }, one3 w1, .slice none 0 0, .slice none 0 0⟩) HR0.out HK2.out.r HQ2.out (At.refl w1 sv) HSz.out (Nat.le_refl _) HZ2.out k4 ⟨HO2.out, Own.nil _ _ _ _ _, Own.nil _ _ _ _ _⟩); clear h4 k4))
  exact ret_nd rfl rfl H4.out rfl rfl ⟨K4.out.1, .inr ⟨({ laidN 4 rows with n := n }, qs.map (·.np)), j, _, sv, qs, by simp only [alignS, HR2.out, Rs.and], rfl, ⟨_, rfl, rfl, K4.out.2.2.1⟩, K4.out.2.1, rfl, K4.out.2.2.2⟩⟩
set_option maxRecDepth 100000 in
set_option maxHeartbeats 2000000 in
theorem top_of : PSc 116 B ts rb tv o (topS ts) := by
  intro w sv i qs rows h
  have HB0 : Hid (Below w.heap.size w (w.alloc (.cells zNd 52))) := (Below.refl _ _).alloc (Nat.le_refl _) _
  have HZ := hid (alloc_block w (.cells zNd 52))
  have HQ0 := hid (h.on HB0.out)
  have HR0 := hid h
  have hrl := h.lt
  have hmf := mkf
  have HSz : Hid (w.heap.size < (w.alloc (.cells zNd 52)).heap.size) := by show _ < _; simp
  generalize hW : w.alloc (.cells zNd 52) = w1 at *
  have HW := hid hW
  clear h hW
  have HOi := hid (own_one (W := w1) HQ0.out.B_le (rows : Int))
  have HQa := hid (HQ0.out.on ((Below.refl _ _).alloc (Nat.le_refl _) (.cells #[.int .i64 (rows : Int)] 3)))
  have HKa := hid ((Kp.of (T := fun k => k = rb) HB0.out).trans (Kp.alloc _ w1 (.cells #[.int .i64 (rows : Int)] 3)))
  have HZa := hid ((Kp.alloc (fun _ => False) w1 (.cells #[.int .i64 (rows : Int)] 3)).blk HZ.out id)
  have M2 : Hid True := trivial
  go_enter Tryz.func116, Tryz.ntmps116
  go_upto_region 1 with fail
  rw [HW.out]
  go_wp2_with (first
    | (go_at_call 90; refine (number_any HQa.out).mono ?_; rintro e w2 ⟨hk, ⟨j, c, hr, rfl⟩ | ⟨n, j, v, hr, rfl, rfl, hq⟩⟩; (focus (go_wp2_with fail; exact ⟨rfl, P2.bad (HKa.out.trans hk).r (by simp only [topS, hr, Rs.and])⟩)); have HK2 := hid (HKa.out.trans hk); have HQ2 := hid hq; have HR2 := hid hr; have HO2 := hid (HOi.out.rdr HQa.out hk (by decide)); have HZ2 := hid (hk.blk HZa.out (fun e => by omega)); have ng : ¬ w2.heap.size = w.heap.size := (fun e => by have := lt_of_block HZ2.out; omega); have ng2 : ¬ w2.heap.size = rb := (fun e => by have := HQ2.out.lt; omega); clear hk hq hr)
    | (have FIRST := M2; refine store_nd (q := ⟨{ laidN 6 rows with n := n }, one3 w1, .slice none 0 0, .slice none 0 0⟩) rfl _ _ rfl rfl rfl (nd_all rfl rfl rfl) (alloc_block w2 _) rfl ?_; intro w3 h3 k3; have H3 := hid h3; have K3 := hid (Rq.back HR0.out HQ2.out HK2.out ((Kp.alloc (fun k => w.heap.size ≤ k) w2 (.cells zNd 52)).trans (k3.imp (fun k _ e => by have := HK2.out.size; omega)))); have HZ3 := hid (k3.blk ((Kp.alloc (fun _ => False) w2 (.cells zNd 52)).blk HZ2.out id) (fun e => ng e.symm)); have HO3 := hid ((HO2.out.on ((Below.refl _ _).alloc (Nat.le_refl _) (.cells zNd 52))).nd (alloc_block w2 _) k3 (by decide)); clear h3 k3 FIRST M2)
    | (go_at_call 88; refine (want_any K3.out.1 wBy).mono ?_; rintro e w4 ⟨hk, ⟨j2, c, hr, rfl⟩ | ⟨_, j2, v, hr, rfl, rfl, hq⟩⟩; (focus (go_wp2_with fail; exact ⟨rfl, P2.bad (K3.out.2.trans hk).r (by simp only [topS, HR2.out, hr, Rs.and])⟩)); have HR4 := hid hr; have H4 := hid (hk.blk H3.out ng2); have K4 := hid (K3.out.2.trans hk); have HQ4 := hid hq; have HZ4 := hid (hk.blk HZ3.out (fun e => by omega)); have HO4 := hid (HO3.out.rdr K3.out.1 hk (by decide)); clear hk hq hr)
    | (go_at_call 89; refine (name_any HQ4.out).mono ?_; rintro e w5 ⟨hk, ⟨j3, c, hr, rfl⟩ | ⟨s, j3, v, hr, rfl, rfl, hq⟩⟩; (focus (go_wp2_with fail; exact ⟨rfl, P2.bad (K4.out.trans hk).r (by simp only [topS, HR2.out, HR4.out, hr, Rs.and])⟩)); have HR5 := hid hr; have H5 := hid (hk.blk H4.out ng2); have c5 := nd_c1 H5.out; have f5 := block_frozen H5.out 1; have H6 := hid (nd_set1 H5.out s); have K6 := hid (Rq.back HR0.out hq (K4.out.trans hk) (Kp.set (T := fun k => w.heap.size ≤ k) (b := w2.heap.size) (i := 1) HK2.out.size (.string (St s)))); have HZ6 := hid ((Kp.set (T := fun k => k = w2.heap.size) (i := 1) rfl (.string (St s))).blk (hk.blk HZ4.out (fun e => by omega)) (fun e => ng e.symm)); have HO6 := hid ((HO4.out.rdr HQ4.out hk (by decide)).nd H5.out (Kp.set (T := fun k => k = w2.heap.size) (i := 1) rfl (.string (St s))) (by decide)); clear hk hq hr)
    | (refine load_nd (q := ⟨{ laidN 6 rows with n := n, s := s }, one3 w1, .slice none 0 0, .slice none 0 0⟩) rfl _ rfl rfl H6.out ?_)
    | (refine store_nd (q := ⟨{ laidN 6 rows with n := n, s := s }, one3 w1, .slice none 0 0, .slice none 0 0⟩) rfl _ _ rfl rfl rfl (nd_all rfl rfl rfl) HZ6.out rfl ?_; intro w9 h9 k9; have H9 := hid h9; have K9 := hid (box_end (q := ⟨{ laidN 6 rows with n := n, s := s }, one3 w1, .slice none 0 0, .slice none 0 0⟩) HR0.out K6.out.2.r K6.out.1 (At.refl w1 sv) HSz.out (Nat.le_refl _) HZ6.out k9 ⟨HO6.out, Own.nil _ _ _ _ _, Own.nil _ _ _ _ _⟩); clear h9 k9))
  exact ret_nd rfl rfl H9.out rfl rfl ⟨K9.out.1, .inr ⟨({ laidN 6 rows with n := n, s := s }, qs.map (·.np)), j3, _, sv, qs, by simp only [topS, HR2.out, HR4.out, HR5.out, Rs.and], rfl, ⟨_, rfl, rfl, K9.out.2.2.1⟩, K9.out.2.1, rfl, K9.out.2.2.2⟩⟩
end
end Go.Proofs.YtomnjckbgmbgmaaGreatDoor
