/-
  What group does.
-/
import Derived.Test.YtmpjmimhoikknaaGreatDoorK07
namespace Go.Proofs.YtmpjmimhoikknaaGreatDoor
open Go.RowKit Go.Joins

section
variable {B : Nat} {ts : List Tp} {w : World} {rb : Nat} {tv sv : Value} {o i : Nat} {qs : List Nd}
set_option maxRecDepth 100000 in
set_option maxHeartbeats 2000000 in
theorem group_of : PSc 184 B ts rb tv o (groupS ts) := by
  intro w sv i qs rows h
  have HB0 : Hid (Below w.heap.size w (w.alloc (.cells zNd 44))) := (Below.refl _ _).alloc (Nat.le_refl _) _
  have HZ := hid (alloc_block w (.cells zNd 44))
  have HQ0 := hid (h.on HB0.out)
  have HR0 := hid h
  have hrl := h.lt
  have hmf := mkf
  have HSz : Hid (w.heap.size < (w.alloc (.cells zNd 44)).heap.size) := by show _ < _; simp
  generalize hW : w.alloc (.cells zNd 44) = w1 at *
  have HW := hid hW
  clear h hW
  have HOi := hid (own_one (W := w1) HQ0.out.B_le (rows : Int))
  have HQa := hid (HQ0.out.on ((Below.refl _ _).alloc (Nat.le_refl _) (.cells #[.int .i64 (rows : Int)] 3)))
  have HKa := hid ((Kp.of (T := fun k => k = rb) HB0.out).trans (Kp.alloc _ w1 (.cells #[.int .i64 (rows : Int)] 3)))
  have HZa := hid ((Kp.alloc (fun _ => False) w1 (.cells #[.int .i64 (rows : Int)] 3)).blk HZ.out id)
  generalize hWa : w1.alloc (.cells #[.int .i64 (rows : Int)] 3) = wa at *
  have HWa := hid hWa
  clear hWa
  have ng : ¬ wa.heap.size = w.heap.size := fun e => by have := lt_of_block HZa.out; omega
  have ng2 : ¬ wa.heap.size = rb := fun e => by have := HQa.out.lt; omega
  have HSZ : Hid (w1.heap.size + 1 = wa.heap.size) := by show _ = _; rw [← HWa.out]; simp
  have M2 : Hid True := trivial
  go_enter Tryz.func184, Tryz.ntmps184
  go_upto_region 1 with fail
  rw [HW.out]
  go_wp2_with (first
    | (have FIRST := M2; rw [HWa.out]; (try rw [HSZ.out]); refine store_nd (q := ⟨laidN 5 rows, one3 w1, .slice none 0 0, .slice none 0 0⟩) rfl _ _ rfl rfl rfl (nd_all rfl rfl rfl) (alloc_block wa _) rfl ?_; intro w3 h3 k3; have H3 := hid h3; have K3 := hid (Rq.back HR0.out HQa.out HKa.out ((Kp.alloc (fun k => w.heap.size ≤ k) wa (.cells zNd 44)).trans (k3.imp (fun k _ e => by have := HKa.out.size; omega)))); have HZ3 := hid (k3.blk ((Kp.alloc (fun _ => False) wa (.cells zNd 44)).blk HZa.out id) (fun e => ng e.symm)); have HO3 := hid ((HOi.out.on ((Below.refl _ _).alloc (Nat.le_refl _) (.cells zNd 44))).nd (alloc_block wa _) k3 (by decide)); clear h3 k3 FIRST M2)
    | (go_at_call 110; refine (skip_any K3.out.1 wColon).mono ?_; rintro e w4 ⟨rfl, hq, hk⟩; have K4 := hid (K3.out.2.trans hk); have HQ4 := hid hq; have HZ4 := hid (hk.blk HZ3.out (fun e => by omega)); have H4 := hid (hk.blk H3.out ng2); have HO4 := hid (HO3.out.rdr K3.out.1 hk (by decide)); clear hq hk;
        cases hw : isW ts i wColon with
        | true =>
          rw [hw] at HQ4
          have C := hid hw
          clear hw
          go_wp2_with (first
            | (go_at_call 212; refine (lista_any HQ4.out).mono ?_; rintro e w5 ⟨hk, ⟨j, c, hr, rfl⟩ | ⟨l, j, v, hr, rfl, hv, hq⟩⟩; (focus (go_wp2_with fail; exact ⟨rfl, P2.bad (K4.out.trans hk).r (by simp only [if_true] at hr; simp [groupS, C.out, hr, Rs.and])⟩)); have HR5 := hid hr; have H5 := hid (hk.blk H4.out ng2); have c5 := nd_c18 H5.out; have f5 := block_frozen H5.out 18; obtain ⟨pv, cv, rfl⟩ := Own.form hv; have H6 := hid (nd_set18 H5.out (.slice pv l.length cv) l); have K6 := hid (Rq.back HR0.out hq (K4.out.trans hk) (Kp.set (T := fun k => w.heap.size ≤ k) (b := wa.heap.size) (i := 18) HKa.out.size (.slice pv l.length cv))); have HZ6 := hid ((Kp.set (T := fun k => k = wa.heap.size) (i := 18) rfl (.slice pv l.length cv)).blk (hk.blk HZ4.out (fun e => by omega)) (fun e => ng e.symm)); have HO6 := hid ((HO4.out.rdr HQ4.out hk (by decide)).nd H5.out (Kp.set (T := fun k => k = wa.heap.size) (i := 18) rfl (.slice pv l.length cv)) (by decide)); have HV6 := hid ((Own.le hv (Nat.le_trans HR0.out.B_le K4.out.size)).nd H5.out (Kp.set (T := fun k => k = wa.heap.size) (i := 18) rfl (.slice pv l.length cv)) (by decide)); clear hk hq hr hv)
            | (refine load_nd (q := ⟨{ laidN 5 rows with aggs := l }, one3 w1, .slice none 0 0, .slice pv l.length cv⟩) rfl _ rfl rfl H6.out ?_)
            | (refine store_nd (q := ⟨{ laidN 5 rows with aggs := l }, one3 w1, .slice none 0 0, .slice pv l.length cv⟩) rfl _ _ rfl rfl rfl (nd_all rfl rfl rfl) HZ6.out rfl ?_; intro w9 h9 k9; have H9 := hid h9; have K9 := hid (box_end (q := ⟨{ laidN 5 rows with aggs := l }, one3 w1, .slice none 0 0, .slice pv l.length cv⟩) HR0.out K6.out.2.r K6.out.1 (At.refl w1 sv) HSz.out (Nat.le_refl _) HZ6.out k9 ⟨HO6.out, Own.nil _ _ _ _ _, HV6.out⟩); clear h9 k9))
          exact ret_nd rfl rfl H9.out rfl rfl ⟨K9.out.1, .inr ⟨({ laidN 5 rows with aggs := l }, qs.map (·.np)), j, _, sv, qs, by have hr := HR5.out; simp only [if_true] at hr; simp [groupS, C.out, hr, Rs.and], rfl, ⟨_, rfl, rfl, K9.out.2.2.1⟩, K9.out.2.1, rfl, K9.out.2.2.2⟩⟩
        | false =>
          rw [hw] at HQ4
          have C := hid hw
          clear hw
          go_wp2_with (first
            | (go_at_call 211; refine (lists_any HQ4.out).mono ?_; rintro e w5 ⟨hk, ⟨j, c, hr, rfl⟩ | ⟨l, j, v, hr, rfl, hv, hq⟩⟩; (focus (go_wp2_with fail; exact ⟨rfl, P2.bad (K4.out.trans hk).r (by simp only [Bool.false_eq_true, if_false] at hr; simp [groupS, C.out, hr, Rs.and])⟩)); have HR5 := hid hr; have H5 := hid (hk.blk H4.out ng2); have c5 := nd_c17 H5.out; have f5 := block_frozen H5.out 17; obtain ⟨pv, cv, rfl⟩ := Own.form hv; have H6 := hid (nd_set17 H5.out (.slice pv l.length cv) l); have K6 := hid (Rq.back HR0.out hq (K4.out.trans hk) (Kp.set (T := fun k => w.heap.size ≤ k) (b := wa.heap.size) (i := 17) HKa.out.size (.slice pv l.length cv))); have HZ6 := hid ((Kp.set (T := fun k => k = wa.heap.size) (i := 17) rfl (.slice pv l.length cv)).blk (hk.blk HZ4.out (fun e => by omega)) (fun e => ng e.symm)); have HO6 := hid ((HO4.out.rdr HQ4.out hk (by decide)).nd H5.out (Kp.set (T := fun k => k = wa.heap.size) (i := 17) rfl (.slice pv l.length cv)) (by decide)); have HV6 := hid ((Own.le hv (Nat.le_trans HR0.out.B_le K4.out.size)).nd H5.out (Kp.set (T := fun k => k = wa.heap.size) (i := 17) rfl (.slice pv l.length cv)) (by decide)); clear hk hq hr hv)
            | (go_at_call 146; clear c5 f5; refine (want_any K6.out.1 wColon).mono ?_; rintro e w7 ⟨hk, ⟨j2, c, hr, rfl⟩ | ⟨_, j2, v, hr, rfl, rfl, hq⟩⟩; (focus (go_wp2_with fail; exact ⟨rfl, P2.bad (K6.out.2.trans hk).r (by have hr5 := HR5.out; simp only [Bool.false_eq_true, if_false] at hr5; simp [groupS, C.out, hr5, hr, Rs.and])⟩)); have HR7 := hid hr; have H7 := hid (hk.blk H6.out ng2); have K7 := hid (K6.out.2.trans hk); have HQ7 := hid hq; have HZ7 := hid (hk.blk HZ6.out (fun e => by omega)); have HO7 := hid (HO6.out.rdr K6.out.1 hk (by decide)); have HV7 := hid (HV6.out.rdr K6.out.1 hk (by decide)); clear hk hq hr)
            | (go_at_call 212; refine (lista_any HQ7.out).mono ?_; rintro e w8 ⟨hk, ⟨j3, c, hr, rfl⟩ | ⟨m, j3, v, hr, rfl, hv, hq⟩⟩; (focus (go_wp2_with fail; exact ⟨rfl, P2.bad (K7.out.trans hk).r (by have hr5 := HR5.out; simp only [Bool.false_eq_true, if_false] at hr5; simp [groupS, C.out, hr5, HR7.out, hr, Rs.and])⟩)); have HR8 := hid hr; have H8 := hid (hk.blk H7.out ng2); have c8 := nd_c18 H8.out; have f8 := block_frozen H8.out 18; obtain ⟨pm, cm, rfl⟩ := Own.form hv; have H9 := hid (nd_set18 H8.out (.slice pm m.length cm) m); have K9 := hid (Rq.back HR0.out hq (K7.out.trans hk) (Kp.set (T := fun k => w.heap.size ≤ k) (b := wa.heap.size) (i := 18) HKa.out.size (.slice pm m.length cm))); have HZ9 := hid ((Kp.set (T := fun k => k = wa.heap.size) (i := 18) rfl (.slice pm m.length cm)).blk (hk.blk HZ7.out (fun e => by omega)) (fun e => ng e.symm)); have HO9 := hid ((HO7.out.rdr HQ7.out hk (by decide)).nd H8.out (Kp.set (T := fun k => k = wa.heap.size) (i := 18) rfl (.slice pm m.length cm)) (by decide)); have HV9 := hid ((HV7.out.rdr HQ7.out hk (by decide)).nd H8.out (Kp.set (T := fun k => k = wa.heap.size) (i := 18) rfl (.slice pm m.length cm)) (by decide)); have HM9 := hid ((Own.le hv (Nat.le_trans HR0.out.B_le K7.out.size)).nd H8.out (Kp.set (T := fun k => k = wa.heap.size) (i := 18) rfl (.slice pm m.length cm)) (by decide)); clear hk hq hr hv)
            | (refine load_nd (q := ⟨{ laidN 5 rows with names := l, aggs := m }, one3 w1, .slice pv l.length cv, .slice pm m.length cm⟩) rfl _ rfl rfl H9.out ?_)
            | (refine store_nd (q := ⟨{ laidN 5 rows with names := l, aggs := m }, one3 w1, .slice pv l.length cv, .slice pm m.length cm⟩) rfl _ _ rfl rfl rfl (nd_all rfl rfl rfl) HZ9.out rfl ?_; intro w10 h10 k10; have H10 := hid h10; have K10 := hid (box_end (q := ⟨{ laidN 5 rows with names := l, aggs := m }, one3 w1, .slice pv l.length cv, .slice pm m.length cm⟩) HR0.out K9.out.2.r K9.out.1 (At.refl w1 sv) HSz.out (Nat.le_refl _) HZ9.out k10 ⟨HO9.out, HV9.out, HM9.out⟩); clear h10 k10))
          exact ret_nd rfl rfl H10.out rfl rfl ⟨K10.out.1, .inr ⟨({ laidN 5 rows with names := l, aggs := m }, qs.map (·.np)), j3, _, sv, qs, by have hr5 := HR5.out; simp only [Bool.false_eq_true, if_false] at hr5; simp [groupS, C.out, hr5, HR7.out, HR8.out, Rs.and], rfl, ⟨_, rfl, rfl, K10.out.2.2.1⟩, K10.out.2.1, rfl, K10.out.2.2.2⟩⟩))
end
end Go.Proofs.YtmpjmimhoikknaaGreatDoor
