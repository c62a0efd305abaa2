/-
  What step and query do.
-/
import Derived.Test.YtmpjmimhoikknaaGreatDoorK08
namespace Go.Proofs.YtmpjmimhoikknaaGreatDoor
open Go.RowKit Go.Joins

section
variable {B : Nat} {ts : List Tp} {w : World} {rb : Nat} {tv sv : Value} {o i : Nat} {qs : List Nd}
abbrev stepC : Array Value := #[.string ⟨#[119, 104, 101, 114, 101]⟩, .func (.func 181) #[] #[], .string ⟨#[107, 101, 101, 112]⟩, .func (.func 182) #[] #[], .string ⟨#[97, 108, 105, 103, 110]⟩, .func (.func 183) #[] #[], .string ⟨#[103, 114, 111, 117, 112]⟩, .func (.func 184) #[] #[], .string ⟨#[116, 111, 112]⟩, .func (.func 185) #[] #[], .string ⟨#[106, 111, 105, 110]⟩, .func (.func 186) #[] #[], .string ⟨#[117, 110, 105, 111, 110]⟩, .func (.func 187) #[] #[]]
set_option maxRecDepth 100000 in
set_option maxHeartbeats 1000000 in
theorem steps_any (w : World) : Calls Tryz.prog 150 #[] w fun e w' => e = .returned (.slice (some ⟨w.heap.size, 0, none⟩) 7 7) ∧ w' = w.alloc (.cells stepC 179) := by
  go_enter Tryz.func150, Tryz.ntmps150
  go_wp2_with fail
  go_ret
  exact ⟨rfl, rfl⟩
theorem one_at {ws : List (List UInt8)} {k : Nat} {x : List UInt8} (h : idxOf ts i ws 0 = idxOf ts i (ws.drop k) k) (hx : ws[k]? = some x) (hw : isW ts i x = true) : oneOfS ts ws i = .ok k (i + 1) := by
  unfold oneOfS; rw [h, idx_at hx hw]
theorem one_none {ws : List (List UInt8)} {k : Nat} (h : idxOf ts i ws 0 = idxOf ts i (ws.drop k) k) (hk : ws.length ≤ k) : oneOfS ts ws i = .bad i 120 := by
  unfold oneOfS; rw [h, List.drop_of_length_le hk]; rfl
theorem size_step : (Tryz.prog.info? 179).map (·.size) = some 2 := by kernel_rfl
theorem step_all (s : ByteArray) (f : Fn) : (#[Value.string s, .func f #[] #[]] : Array Value).all (·.oneCell') = true := by simp [Value.oneCell']
/- The loop's state. -/
def StL (B : Nat) (ts : List Tp) (rb : Nat) (tv sv : Value) (o i : Nat) (qs : List Nd) (w : World) (sb k : Nat) (wr : World) : Prop :=
  idxOf ts i stepW 0 = idxOf ts i (stepW.drop k) k ∧ Rq B ts wr rb tv sv o i qs ∧ Kp (fun k => k = rb) w wr ∧ wr.heap[sb]? = some (.cells stepC 179 (0, 0)) ∧ wr.heap[w.heap.size]? = some (.cells zNd 44 (0, 0))
set_option maxRecDepth 100000 in
set_option maxHeartbeats 8000000 in
theorem step_of {c : PN} {d : Option PN} (hc : PNc 210 B ts rb tv o c) (hd : Deep 68 B ts rb tv o d) : PSc 111 B ts rb tv o (stepB ts c d) := by
  intro w sv i qs rows h
  have HC0 := hid ((where_of hc : PSc 181 B ts rb tv o (whereS c)))
  have HC1 := hid ((keep_of : PSc 182 B ts rb tv o (keepS ts)))
  have HC2 := hid ((align_of : PSc 183 B ts rb tv o (alignS ts)))
  have HC3 := hid ((group_of : PSc 184 B ts rb tv o (groupS ts)))
  have HC4 := hid ((top_of : PSc 185 B ts rb tv o (topS ts)))
  have HC5 := hid ((join_of hd : PSc 186 B ts rb tv o (joinS 7 ts d)))
  have HC6 := hid ((union_of hd : PSc 187 B ts rb tv o (joinS 8 ts d)))
  have HB0 : Hid (Below w.heap.size w (w.alloc (.cells zNd 44))) := (Below.refl _ _).alloc (Nat.le_refl _) _
  have HZ := hid (alloc_block w (.cells zNd 44))
  have HQ0 := hid (h.on HB0.out)
  have HR0 := hid h
  have hrl := h.lt
  generalize hW : w.alloc (.cells zNd 44) = w1 at *
  have HW := hid hW
  clear h hW hc hd
  have nb : ¬ w1.heap.size = rb := fun e => by have := HQ0.out.lt; omega
  go_enter Tryz.func111, Tryz.ntmps111
  go_upto_region 1 with fail
  rw [HW.out]
  go_wp2_with (go_at_call 150; refine (steps_any w1).mono ?_; rintro e w2 ⟨rfl, rfl⟩)
  have HS0 : Hid (StL B ts rb tv sv o i qs w w1.heap.size 0 (w1.alloc (.cells stepC 179))) := ⟨rfl, HQ0.out.on ((Below.refl _ _).alloc (Nat.le_refl _) _), (Kp.of HB0.out).trans (Kp.alloc _ _ _), alloc_block w1 _, (Kp.alloc (fun _ => False) w1 _).blk HZ.out id⟩
  generalize w1.alloc (.cells stepC 179) = w2 at *
  go_loopw [9] (fun x wr => ∃ k : Nat, k ≤ 7 ∧ x = .int .i64 k ∧ Hid (StL B ts rb tv sv o i qs w w1.heap.size k wr)) (fun x _ => 7 - (intOf x).toNat)
  case atStart => exact ⟨0, by omega, rfl, HS0.out⟩
  case round =>
    obtain ⟨k, hk, rfl, HS⟩ := hrel
    clear HS0
    obtain ⟨hI, hQ, hKr, hSb, hZr⟩ := HS.out
    have HI := hid hI
    have HQr := hid hQ
    have HKr := hid hKr
    have HSb := hid hSb
    have HZr := hid hZr
    have cs := block_cell hSb
    have lr : ¬ wr.heap.size = rb := fun e => by have := hQ.lt; omega
    clear hI hQ hKr hSb hZr
    match k, hk with
    | 0, _ =>
      cases hw : isW ts i [119, 104, 101, 114, 101] with
      | true =>
        have HWx := hid hw
        have HO := hid (one_at HI.out (x := [119, 104, 101, 114, 101]) rfl hw)
        have HSp : Hid (stepB ts c d rows i (qs.map (·.np)) = (whereS c) rows (i + 1) (qs.map (·.np))) := by show _ = _; unfold stepB; rw [HO.out]; rfl
        clear hw
        go_wp2_with (first
          | (refine wpList_store_row (cells := #[.string ⟨#[119, 104, 101, 114, 101]⟩, .func (.func 181) #[] #[]]) rfl 179 _ _ rfl rfl rfl (alloc_block wr _) size_step rfl (step_all _ _) ?_; intro wv hb2 k2 _; have KV := hid (Rq.back HR0.out HQr.out HKr.out ((Kp.alloc (fun k => w.heap.size ≤ k) wr _).trans (k2.imp (fun k _ e => by have := HKr.out.size; omega)))); have HBv := hid hb2; have kv := block_cell hb2; have HZv := hid (k2.blk ((Kp.alloc (fun _ => False) wr _).blk HZr.out id) (fun e => by have := lt_of_block HZr.out; omega)); have HSv := hid (k2.blk ((Kp.alloc (fun _ => False) wr _).blk HSb.out id) (fun e => by have := lt_of_block HSb.out; omega)); clear hb2 k2)
          | (go_at_call 110; clear kv; refine (skip_any KV.out.1 [119, 104, 101, 114, 101]).mono ?_; rw [HWx.out]; rintro e w3 ⟨rfl, hq, hk⟩; have HQ3 := hid hq; have HK3 := hid (KV.out.2.trans hk); have kb := block_cell (hk.blk HBv.out lr); have HZ3 := hid (hk.blk HZv.out (fun e => by omega)); clear hq hk)
          | (go_at_call 181; refine (HC0.out _ _ _ _ rows HQ3.out).mono ?_; rintro e w4 ⟨hk, ⟨j, c', hr, rfl⟩ | ⟨r, j, v, sv4, qs4, hr, rfl, ⟨q, hqx, rfl, hqn⟩, hq, hm, ha⟩⟩; (focus (go_wp2_with fail; exact ⟨rfl, P2.bad (HK3.out.r.trans hk) (by rw [HSp.out]; exact hr)⟩)); have HR4 := hid hr; have HE4 := hid hqx; have HN4 := hid hqn; have HQ4 := hid hq; have HM4 := hid hm; have HA4 := hid ha; have HK4 := hid (HK3.out.r.trans hk); have HZ4 := hid (hk.blk HZ3.out (fun e => by have := HR0.out.T_lt _ e; omega)); clear hk hr hqx hqn hq hm ha)
          | (refine store_nd (q := q) rfl _ _ rfl rfl rfl HN4.out.all HZ4.out rfl ?_; intro w5 h5 k5; have H5 := hid h5; have K5 := hid (box_end HR0.out HK4.out HQ4.out HA4.out (lt_of_block HZ3.out) (Nat.le_refl _) HZ4.out k5 HN4.out); clear h5 k5))
        exact ret_nd rfl rfl H5.out rfl rfl ⟨K5.out.1, .inr ⟨r, j, _, sv4, qs4, by rw [HSp.out]; exact HR4.out, rfl, ⟨q, HE4.out, rfl, K5.out.2.2.1⟩, K5.out.2.1, HM4.out, K5.out.2.2.2⟩⟩
      | false =>
        have HWx := hid hw
        have HI2 : Hid (idxOf ts i stepW 0 = idxOf ts i (stepW.drop (0 + 1)) (0 + 1)) := by show _ = _; rw [HI.out, idx_drop (x := [119, 104, 101, 114, 101]) rfl hw]
        clear hw
        go_wp2_with (first
          | (refine wpList_store_row (cells := #[.string ⟨#[119, 104, 101, 114, 101]⟩, .func (.func 181) #[] #[]]) rfl 179 _ _ rfl rfl rfl (alloc_block wr _) size_step rfl (step_all _ _) ?_; intro wv hb2 k2 _; have KV := hid (Rq.back HR0.out HQr.out HKr.out ((Kp.alloc (fun k => w.heap.size ≤ k) wr _).trans (k2.imp (fun k _ e => by have := HKr.out.size; omega)))); have HBv := hid hb2; have kv := block_cell hb2; have HZv := hid (k2.blk ((Kp.alloc (fun _ => False) wr _).blk HZr.out id) (fun e => by have := lt_of_block HZr.out; omega)); have HSv := hid (k2.blk ((Kp.alloc (fun _ => False) wr _).blk HSb.out id) (fun e => by have := lt_of_block HSb.out; omega)); clear hb2 k2)
          | (go_at_call 110; clear kv; refine (skip_any KV.out.1 [119, 104, 101, 114, 101]).mono ?_; rw [HWx.out]; rintro e w3 ⟨rfl, hq, hk⟩; have HQ3 := hid hq; have HK3 := hid (KV.out.2.trans hk); have HZ3 := hid (hk.blk HZv.out (fun e => by omega)); have HS3 := hid (hk.blk HSv.out nb); clear hq hk))
        go_roundw
        case rel => exact ⟨0 + 1, by omega, by go_num, HI2.out, HQ3.out, HK3.out, HS3.out, HZ3.out⟩
        case measure => simp [intOf]
    | 1, _ =>
      cases hw : isW ts i [107, 101, 101, 112] with
      | true =>
        have HWx := hid hw
        have HO := hid (one_at HI.out (x := [107, 101, 101, 112]) rfl hw)
        have HSp : Hid (stepB ts c d rows i (qs.map (·.np)) = (keepS ts) rows (i + 1) (qs.map (·.np))) := by show _ = _; unfold stepB; rw [HO.out]; rfl
        clear hw
        go_wp2_with (first
          | (refine wpList_store_row (cells := #[.string ⟨#[107, 101, 101, 112]⟩, .func (.func 182) #[] #[]]) rfl 179 _ _ rfl rfl rfl (alloc_block wr _) size_step rfl (step_all _ _) ?_; intro wv hb2 k2 _; have KV := hid (Rq.back HR0.out HQr.out HKr.out ((Kp.alloc (fun k => w.heap.size ≤ k) wr _).trans (k2.imp (fun k _ e => by have := HKr.out.size; omega)))); have HBv := hid hb2; have kv := block_cell hb2; have HZv := hid (k2.blk ((Kp.alloc (fun _ => False) wr _).blk HZr.out id) (fun e => by have := lt_of_block HZr.out; omega)); have HSv := hid (k2.blk ((Kp.alloc (fun _ => False) wr _).blk HSb.out id) (fun e => by have := lt_of_block HSb.out; omega)); clear hb2 k2)
          | (go_at_call 110; clear kv; refine (skip_any KV.out.1 [107, 101, 101, 112]).mono ?_; rw [HWx.out]; rintro e w3 ⟨rfl, hq, hk⟩; have HQ3 := hid hq; have HK3 := hid (KV.out.2.trans hk); have kb := block_cell (hk.blk HBv.out lr); have HZ3 := hid (hk.blk HZv.out (fun e => by omega)); clear hq hk)
          | (go_at_call 182; refine (HC1.out _ _ _ _ rows HQ3.out).mono ?_; rintro e w4 ⟨hk, ⟨j, c', hr, rfl⟩ | ⟨r, j, v, sv4, qs4, hr, rfl, ⟨q, hqx, rfl, hqn⟩, hq, hm, ha⟩⟩; (focus (go_wp2_with fail; exact ⟨rfl, P2.bad (HK3.out.r.trans hk) (by rw [HSp.out]; exact hr)⟩)); have HR4 := hid hr; have HE4 := hid hqx; have HN4 := hid hqn; have HQ4 := hid hq; have HM4 := hid hm; have HA4 := hid ha; have HK4 := hid (HK3.out.r.trans hk); have HZ4 := hid (hk.blk HZ3.out (fun e => by have := HR0.out.T_lt _ e; omega)); clear hk hr hqx hqn hq hm ha)
          | (refine store_nd (q := q) rfl _ _ rfl rfl rfl HN4.out.all HZ4.out rfl ?_; intro w5 h5 k5; have H5 := hid h5; have K5 := hid (box_end HR0.out HK4.out HQ4.out HA4.out (lt_of_block HZ3.out) (Nat.le_refl _) HZ4.out k5 HN4.out); clear h5 k5))
        exact ret_nd rfl rfl H5.out rfl rfl ⟨K5.out.1, .inr ⟨r, j, _, sv4, qs4, by rw [HSp.out]; exact HR4.out, rfl, ⟨q, HE4.out, rfl, K5.out.2.2.1⟩, K5.out.2.1, HM4.out, K5.out.2.2.2⟩⟩
      | false =>
        have HWx := hid hw
        have HI2 : Hid (idxOf ts i stepW 0 = idxOf ts i (stepW.drop (1 + 1)) (1 + 1)) := by show _ = _; rw [HI.out, idx_drop (x := [107, 101, 101, 112]) rfl hw]
        clear hw
        go_wp2_with (first
          | (refine wpList_store_row (cells := #[.string ⟨#[107, 101, 101, 112]⟩, .func (.func 182) #[] #[]]) rfl 179 _ _ rfl rfl rfl (alloc_block wr _) size_step rfl (step_all _ _) ?_; intro wv hb2 k2 _; have KV := hid (Rq.back HR0.out HQr.out HKr.out ((Kp.alloc (fun k => w.heap.size ≤ k) wr _).trans (k2.imp (fun k _ e => by have := HKr.out.size; omega)))); have HBv := hid hb2; have kv := block_cell hb2; have HZv := hid (k2.blk ((Kp.alloc (fun _ => False) wr _).blk HZr.out id) (fun e => by have := lt_of_block HZr.out; omega)); have HSv := hid (k2.blk ((Kp.alloc (fun _ => False) wr _).blk HSb.out id) (fun e => by have := lt_of_block HSb.out; omega)); clear hb2 k2)
          | (go_at_call 110; clear kv; refine (skip_any KV.out.1 [107, 101, 101, 112]).mono ?_; rw [HWx.out]; rintro e w3 ⟨rfl, hq, hk⟩; have HQ3 := hid hq; have HK3 := hid (KV.out.2.trans hk); have HZ3 := hid (hk.blk HZv.out (fun e => by omega)); have HS3 := hid (hk.blk HSv.out nb); clear hq hk))
        go_roundw
        case rel => exact ⟨1 + 1, by omega, by go_num, HI2.out, HQ3.out, HK3.out, HS3.out, HZ3.out⟩
        case measure => simp [intOf]
    | 2, _ =>
      cases hw : isW ts i [97, 108, 105, 103, 110] with
      | true =>
        have HWx := hid hw
        have HO := hid (one_at HI.out (x := [97, 108, 105, 103, 110]) rfl hw)
        have HSp : Hid (stepB ts c d rows i (qs.map (·.np)) = (alignS ts) rows (i + 1) (qs.map (·.np))) := by show _ = _; unfold stepB; rw [HO.out]; rfl
        clear hw
        go_wp2_with (first
          | (refine wpList_store_row (cells := #[.string ⟨#[97, 108, 105, 103, 110]⟩, .func (.func 183) #[] #[]]) rfl 179 _ _ rfl rfl rfl (alloc_block wr _) size_step rfl (step_all _ _) ?_; intro wv hb2 k2 _; have KV := hid (Rq.back HR0.out HQr.out HKr.out ((Kp.alloc (fun k => w.heap.size ≤ k) wr _).trans (k2.imp (fun k _ e => by have := HKr.out.size; omega)))); have HBv := hid hb2; have kv := block_cell hb2; have HZv := hid (k2.blk ((Kp.alloc (fun _ => False) wr _).blk HZr.out id) (fun e => by have := lt_of_block HZr.out; omega)); have HSv := hid (k2.blk ((Kp.alloc (fun _ => False) wr _).blk HSb.out id) (fun e => by have := lt_of_block HSb.out; omega)); clear hb2 k2)
          | (go_at_call 110; clear kv; refine (skip_any KV.out.1 [97, 108, 105, 103, 110]).mono ?_; rw [HWx.out]; rintro e w3 ⟨rfl, hq, hk⟩; have HQ3 := hid hq; have HK3 := hid (KV.out.2.trans hk); have kb := block_cell (hk.blk HBv.out lr); have HZ3 := hid (hk.blk HZv.out (fun e => by omega)); clear hq hk)
          | (go_at_call 183; refine (HC2.out _ _ _ _ rows HQ3.out).mono ?_; rintro e w4 ⟨hk, ⟨j, c', hr, rfl⟩ | ⟨r, j, v, sv4, qs4, hr, rfl, ⟨q, hqx, rfl, hqn⟩, hq, hm, ha⟩⟩; (focus (go_wp2_with fail; exact ⟨rfl, P2.bad (HK3.out.r.trans hk) (by rw [HSp.out]; exact hr)⟩)); have HR4 := hid hr; have HE4 := hid hqx; have HN4 := hid hqn; have HQ4 := hid hq; have HM4 := hid hm; have HA4 := hid ha; have HK4 := hid (HK3.out.r.trans hk); have HZ4 := hid (hk.blk HZ3.out (fun e => by have := HR0.out.T_lt _ e; omega)); clear hk hr hqx hqn hq hm ha)
          | (refine store_nd (q := q) rfl _ _ rfl rfl rfl HN4.out.all HZ4.out rfl ?_; intro w5 h5 k5; have H5 := hid h5; have K5 := hid (box_end HR0.out HK4.out HQ4.out HA4.out (lt_of_block HZ3.out) (Nat.le_refl _) HZ4.out k5 HN4.out); clear h5 k5))
        exact ret_nd rfl rfl H5.out rfl rfl ⟨K5.out.1, .inr ⟨r, j, _, sv4, qs4, by rw [HSp.out]; exact HR4.out, rfl, ⟨q, HE4.out, rfl, K5.out.2.2.1⟩, K5.out.2.1, HM4.out, K5.out.2.2.2⟩⟩
      | false =>
        have HWx := hid hw
        have HI2 : Hid (idxOf ts i stepW 0 = idxOf ts i (stepW.drop (2 + 1)) (2 + 1)) := by show _ = _; rw [HI.out, idx_drop (x := [97, 108, 105, 103, 110]) rfl hw]
        clear hw
        go_wp2_with (first
          | (refine wpList_store_row (cells := #[.string ⟨#[97, 108, 105, 103, 110]⟩, .func (.func 183) #[] #[]]) rfl 179 _ _ rfl rfl rfl (alloc_block wr _) size_step rfl (step_all _ _) ?_; intro wv hb2 k2 _; have KV := hid (Rq.back HR0.out HQr.out HKr.out ((Kp.alloc (fun k => w.heap.size ≤ k) wr _).trans (k2.imp (fun k _ e => by have := HKr.out.size; omega)))); have HBv := hid hb2; have kv := block_cell hb2; have HZv := hid (k2.blk ((Kp.alloc (fun _ => False) wr _).blk HZr.out id) (fun e => by have := lt_of_block HZr.out; omega)); have HSv := hid (k2.blk ((Kp.alloc (fun _ => False) wr _).blk HSb.out id) (fun e => by have := lt_of_block HSb.out; omega)); clear hb2 k2)
          | (go_at_call 110; clear kv; refine (skip_any KV.out.1 [97, 108, 105, 103, 110]).mono ?_; rw [HWx.out]; rintro e w3 ⟨rfl, hq, hk⟩; have HQ3 := hid hq; have HK3 := hid (KV.out.2.trans hk); have HZ3 := hid (hk.blk HZv.out (fun e => by omega)); have HS3 := hid (hk.blk HSv.out nb); clear hq hk))
        go_roundw
        case rel => exact ⟨2 + 1, by omega, by go_num, HI2.out, HQ3.out, HK3.out, HS3.out, HZ3.out⟩
        case measure => simp [intOf]
    | 3, _ =>
      cases hw : isW ts i [103, 114, 111, 117, 112] with
      | true =>
        have HWx := hid hw
        have HO := hid (one_at HI.out (x := [103, 114, 111, 117, 112]) rfl hw)
        have HSp : Hid (stepB ts c d rows i (qs.map (·.np)) = (groupS ts) rows (i + 1) (qs.map (·.np))) := by show _ = _; unfold stepB; rw [HO.out]; rfl
        clear hw
        go_wp2_with (first
          | (refine wpList_store_row (cells := #[.string ⟨#[103, 114, 111, 117, 112]⟩, .func (.func 184) #[] #[]]) rfl 179 _ _ rfl rfl rfl (alloc_block wr _) size_step rfl (step_all _ _) ?_; intro wv hb2 k2 _; have KV := hid (Rq.back HR0.out HQr.out HKr.out ((Kp.alloc (fun k => w.heap.size ≤ k) wr _).trans (k2.imp (fun k _ e => by have := HKr.out.size; omega)))); have HBv := hid hb2; have kv := block_cell hb2; have HZv := hid (k2.blk ((Kp.alloc (fun _ => False) wr _).blk HZr.out id) (fun e => by have := lt_of_block HZr.out; omega)); have HSv := hid (k2.blk ((Kp.alloc (fun _ => False) wr _).blk HSb.out id) (fun e => by have := lt_of_block HSb.out; omega)); clear hb2 k2)
          | (go_at_call 110; clear kv; refine (skip_any KV.out.1 [103, 114, 111, 117, 112]).mono ?_; rw [HWx.out]; rintro e w3 ⟨rfl, hq, hk⟩; have HQ3 := hid hq; have HK3 := hid (KV.out.2.trans hk); have kb := block_cell (hk.blk HBv.out lr); have HZ3 := hid (hk.blk HZv.out (fun e => by omega)); clear hq hk)
          | (go_at_call 184; refine (HC3.out _ _ _ _ rows HQ3.out).mono ?_; rintro e w4 ⟨hk, ⟨j, c', hr, rfl⟩ | ⟨r, j, v, sv4, qs4, hr, rfl, ⟨q, hqx, rfl, hqn⟩, hq, hm, ha⟩⟩; (focus (go_wp2_with fail; exact ⟨rfl, P2.bad (HK3.out.r.trans hk) (by rw [HSp.out]; exact hr)⟩)); have HR4 := hid hr; have HE4 := hid hqx; have HN4 := hid hqn; have HQ4 := hid hq; have HM4 := hid hm; have HA4 := hid ha; have HK4 := hid (HK3.out.r.trans hk); have HZ4 := hid (hk.blk HZ3.out (fun e => by have := HR0.out.T_lt _ e; omega)); clear hk hr hqx hqn hq hm ha)
          | (refine store_nd (q := q) rfl _ _ rfl rfl rfl HN4.out.all HZ4.out rfl ?_; intro w5 h5 k5; have H5 := hid h5; have K5 := hid (box_end HR0.out HK4.out HQ4.out HA4.out (lt_of_block HZ3.out) (Nat.le_refl _) HZ4.out k5 HN4.out); clear h5 k5))
        exact ret_nd rfl rfl H5.out rfl rfl ⟨K5.out.1, .inr ⟨r, j, _, sv4, qs4, by rw [HSp.out]; exact HR4.out, rfl, ⟨q, HE4.out, rfl, K5.out.2.2.1⟩, K5.out.2.1, HM4.out, K5.out.2.2.2⟩⟩
      | false =>
        have HWx := hid hw
        have HI2 : Hid (idxOf ts i stepW 0 = idxOf ts i (stepW.drop (3 + 1)) (3 + 1)) := by show _ = _; rw [HI.out, idx_drop (x := [103, 114, 111, 117, 112]) rfl hw]
        clear hw
        go_wp2_with (first
          | (refine wpList_store_row (cells := #[.string ⟨#[103, 114, 111, 117, 112]⟩, .func (.func 184) #[] #[]]) rfl 179 _ _ rfl rfl rfl (alloc_block wr _) size_step rfl (step_all _ _) ?_; intro wv hb2 k2 _; have KV := hid (Rq.back HR0.out HQr.out HKr.out ((Kp.alloc (fun k => w.heap.size ≤ k) wr _).trans (k2.imp (fun k _ e => by have := HKr.out.size; omega)))); have HBv := hid hb2; have kv := block_cell hb2; have HZv := hid (k2.blk ((Kp.alloc (fun _ => False) wr _).blk HZr.out id) (fun e => by have := lt_of_block HZr.out; omega)); have HSv := hid (k2.blk ((Kp.alloc (fun _ => False) wr _).blk HSb.out id) (fun e => by have := lt_of_block HSb.out; omega)); clear hb2 k2)
          | (go_at_call 110; clear kv; refine (skip_any KV.out.1 [103, 114, 111, 117, 112]).mono ?_; rw [HWx.out]; rintro e w3 ⟨rfl, hq, hk⟩; have HQ3 := hid hq; have HK3 := hid (KV.out.2.trans hk); have HZ3 := hid (hk.blk HZv.out (fun e => by omega)); have HS3 := hid (hk.blk HSv.out nb); clear hq hk))
        go_roundw
        case rel => exact ⟨3 + 1, by omega, by go_num, HI2.out, HQ3.out, HK3.out, HS3.out, HZ3.out⟩
        case measure => simp [intOf]
    | 4, _ =>
      cases hw : isW ts i [116, 111, 112] with
      | true =>
        have HWx := hid hw
        have HO := hid (one_at HI.out (x := [116, 111, 112]) rfl hw)
        have HSp : Hid (stepB ts c d rows i (qs.map (·.np)) = (topS ts) rows (i + 1) (qs.map (·.np))) := by show _ = _; unfold stepB; rw [HO.out]; rfl
        clear hw
        go_wp2_with (first
          | (refine wpList_store_row (cells := #[.string ⟨#[116, 111, 112]⟩, .func (.func 185) #[] #[]]) rfl 179 _ _ rfl rfl rfl (alloc_block wr _) size_step rfl (step_all _ _) ?_; intro wv hb2 k2 _; have KV := hid (Rq.back HR0.out HQr.out HKr.out ((Kp.alloc (fun k => w.heap.size ≤ k) wr _).trans (k2.imp (fun k _ e => by have := HKr.out.size; omega)))); have HBv := hid hb2; have kv := block_cell hb2; have HZv := hid (k2.blk ((Kp.alloc (fun _ => False) wr _).blk HZr.out id) (fun e => by have := lt_of_block HZr.out; omega)); have HSv := hid (k2.blk ((Kp.alloc (fun _ => False) wr _).blk HSb.out id) (fun e => by have := lt_of_block HSb.out; omega)); clear hb2 k2)
          | (go_at_call 110; clear kv; refine (skip_any KV.out.1 [116, 111, 112]).mono ?_; rw [HWx.out]; rintro e w3 ⟨rfl, hq, hk⟩; have HQ3 := hid hq; have HK3 := hid (KV.out.2.trans hk); have kb := block_cell (hk.blk HBv.out lr); have HZ3 := hid (hk.blk HZv.out (fun e => by omega)); clear hq hk)
          | (go_at_call 185; refine (HC4.out _ _ _ _ rows HQ3.out).mono ?_; rintro e w4 ⟨hk, ⟨j, c', hr, rfl⟩ | ⟨r, j, v, sv4, qs4, hr, rfl, ⟨q, hqx, rfl, hqn⟩, hq, hm, ha⟩⟩; (focus (go_wp2_with fail; exact ⟨rfl, P2.bad (HK3.out.r.trans hk) (by rw [HSp.out]; exact hr)⟩)); have HR4 := hid hr; have HE4 := hid hqx; have HN4 := hid hqn; have HQ4 := hid hq; have HM4 := hid hm; have HA4 := hid ha; have HK4 := hid (HK3.out.r.trans hk); have HZ4 := hid (hk.blk HZ3.out (fun e => by have := HR0.out.T_lt _ e; omega)); clear hk hr hqx hqn hq hm ha)
          | (refine store_nd (q := q) rfl _ _ rfl rfl rfl HN4.out.all HZ4.out rfl ?_; intro w5 h5 k5; have H5 := hid h5; have K5 := hid (box_end HR0.out HK4.out HQ4.out HA4.out (lt_of_block HZ3.out) (Nat.le_refl _) HZ4.out k5 HN4.out); clear h5 k5))
        exact ret_nd rfl rfl H5.out rfl rfl ⟨K5.out.1, .inr ⟨r, j, _, sv4, qs4, by rw [HSp.out]; exact HR4.out, rfl, ⟨q, HE4.out, rfl, K5.out.2.2.1⟩, K5.out.2.1, HM4.out, K5.out.2.2.2⟩⟩
      | false =>
        have HWx := hid hw
        have HI2 : Hid (idxOf ts i stepW 0 = idxOf ts i (stepW.drop (4 + 1)) (4 + 1)) := by show _ = _; rw [HI.out, idx_drop (x := [116, 111, 112]) rfl hw]
        clear hw
        go_wp2_with (first
          | (refine wpList_store_row (cells := #[.string ⟨#[116, 111, 112]⟩, .func (.func 185) #[] #[]]) rfl 179 _ _ rfl rfl rfl (alloc_block wr _) size_step rfl (step_all _ _) ?_; intro wv hb2 k2 _; have KV := hid (Rq.back HR0.out HQr.out HKr.out ((Kp.alloc (fun k => w.heap.size ≤ k) wr _).trans (k2.imp (fun k _ e => by have := HKr.out.size; omega)))); have HBv := hid hb2; have kv := block_cell hb2; have HZv := hid (k2.blk ((Kp.alloc (fun _ => False) wr _).blk HZr.out id) (fun e => by have := lt_of_block HZr.out; omega)); have HSv := hid (k2.blk ((Kp.alloc (fun _ => False) wr _).blk HSb.out id) (fun e => by have := lt_of_block HSb.out; omega)); clear hb2 k2)
          | (go_at_call 110; clear kv; refine (skip_any KV.out.1 [116, 111, 112]).mono ?_; rw [HWx.out]; rintro e w3 ⟨rfl, hq, hk⟩; have HQ3 := hid hq; have HK3 := hid (KV.out.2.trans hk); have HZ3 := hid (hk.blk HZv.out (fun e => by omega)); have HS3 := hid (hk.blk HSv.out nb); clear hq hk))
        go_roundw
        case rel => exact ⟨4 + 1, by omega, by go_num, HI2.out, HQ3.out, HK3.out, HS3.out, HZ3.out⟩
        case measure => simp [intOf]
    | 5, _ =>
      cases hw : isW ts i [106, 111, 105, 110] with
      | true =>
        have HWx := hid hw
        have HO := hid (one_at HI.out (x := [106, 111, 105, 110]) rfl hw)
        have HSp : Hid (stepB ts c d rows i (qs.map (·.np)) = (joinS 7 ts d) rows (i + 1) (qs.map (·.np))) := by show _ = _; unfold stepB; rw [HO.out]; rfl
        clear hw
        go_wp2_with (first
          | (refine wpList_store_row (cells := #[.string ⟨#[106, 111, 105, 110]⟩, .func (.func 186) #[] #[]]) rfl 179 _ _ rfl rfl rfl (alloc_block wr _) size_step rfl (step_all _ _) ?_; intro wv hb2 k2 _; have KV := hid (Rq.back HR0.out HQr.out HKr.out ((Kp.alloc (fun k => w.heap.size ≤ k) wr _).trans (k2.imp (fun k _ e => by have := HKr.out.size; omega)))); have HBv := hid hb2; have kv := block_cell hb2; have HZv := hid (k2.blk ((Kp.alloc (fun _ => False) wr _).blk HZr.out id) (fun e => by have := lt_of_block HZr.out; omega)); have HSv := hid (k2.blk ((Kp.alloc (fun _ => False) wr _).blk HSb.out id) (fun e => by have := lt_of_block HSb.out; omega)); clear hb2 k2)
          | (go_at_call 110; clear kv; refine (skip_any KV.out.1 [106, 111, 105, 110]).mono ?_; rw [HWx.out]; rintro e w3 ⟨rfl, hq, hk⟩; have HQ3 := hid hq; have HK3 := hid (KV.out.2.trans hk); have kb := block_cell (hk.blk HBv.out lr); have HZ3 := hid (hk.blk HZv.out (fun e => by omega)); clear hq hk)
          | (go_at_call 186; refine (HC5.out _ _ _ _ rows HQ3.out).mono ?_; rintro e w4 ⟨hk, ⟨j, c', hr, rfl⟩ | ⟨r, j, v, sv4, qs4, hr, rfl, ⟨q, hqx, rfl, hqn⟩, hq, hm, ha⟩⟩; (focus (go_wp2_with fail; exact ⟨rfl, P2.bad (HK3.out.r.trans hk) (by rw [HSp.out]; exact hr)⟩)); have HR4 := hid hr; have HE4 := hid hqx; have HN4 := hid hqn; have HQ4 := hid hq; have HM4 := hid hm; have HA4 := hid ha; have HK4 := hid (HK3.out.r.trans hk); have HZ4 := hid (hk.blk HZ3.out (fun e => by have := HR0.out.T_lt _ e; omega)); clear hk hr hqx hqn hq hm ha)
          | (refine store_nd (q := q) rfl _ _ rfl rfl rfl HN4.out.all HZ4.out rfl ?_; intro w5 h5 k5; have H5 := hid h5; have K5 := hid (box_end HR0.out HK4.out HQ4.out HA4.out (lt_of_block HZ3.out) (Nat.le_refl _) HZ4.out k5 HN4.out); clear h5 k5))
        exact ret_nd rfl rfl H5.out rfl rfl ⟨K5.out.1, .inr ⟨r, j, _, sv4, qs4, by rw [HSp.out]; exact HR4.out, rfl, ⟨q, HE4.out, rfl, K5.out.2.2.1⟩, K5.out.2.1, HM4.out, K5.out.2.2.2⟩⟩
      | false =>
        have HWx := hid hw
        have HI2 : Hid (idxOf ts i stepW 0 = idxOf ts i (stepW.drop (5 + 1)) (5 + 1)) := by show _ = _; rw [HI.out, idx_drop (x := [106, 111, 105, 110]) rfl hw]
        clear hw
        go_wp2_with (first
          | (refine wpList_store_row (cells := #[.string ⟨#[106, 111, 105, 110]⟩, .func (.func 186) #[] #[]]) rfl 179 _ _ rfl rfl rfl (alloc_block wr _) size_step rfl (step_all _ _) ?_; intro wv hb2 k2 _; have KV := hid (Rq.back HR0.out HQr.out HKr.out ((Kp.alloc (fun k => w.heap.size ≤ k) wr _).trans (k2.imp (fun k _ e => by have := HKr.out.size; omega)))); have HBv := hid hb2; have kv := block_cell hb2; have HZv := hid (k2.blk ((Kp.alloc (fun _ => False) wr _).blk HZr.out id) (fun e => by have := lt_of_block HZr.out; omega)); have HSv := hid (k2.blk ((Kp.alloc (fun _ => False) wr _).blk HSb.out id) (fun e => by have := lt_of_block HSb.out; omega)); clear hb2 k2)
          | (go_at_call 110; clear kv; refine (skip_any KV.out.1 [106, 111, 105, 110]).mono ?_; rw [HWx.out]; rintro e w3 ⟨rfl, hq, hk⟩; have HQ3 := hid hq; have HK3 := hid (KV.out.2.trans hk); have HZ3 := hid (hk.blk HZv.out (fun e => by omega)); have HS3 := hid (hk.blk HSv.out nb); clear hq hk))
        go_roundw
        case rel => exact ⟨5 + 1, by omega, by go_num, HI2.out, HQ3.out, HK3.out, HS3.out, HZ3.out⟩
        case measure => simp [intOf]
    | 6, _ =>
      cases hw : isW ts i [117, 110, 105, 111, 110] with
      | true =>
        have HWx := hid hw
        have HO := hid (one_at HI.out (x := [117, 110, 105, 111, 110]) rfl hw)
        have HSp : Hid (stepB ts c d rows i (qs.map (·.np)) = (joinS 8 ts d) rows (i + 1) (qs.map (·.np))) := by show _ = _; unfold stepB; rw [HO.out]; rfl
        clear hw
        go_wp2_with (first
          | (refine wpList_store_row (cells := #[.string ⟨#[117, 110, 105, 111, 110]⟩, .func (.func 187) #[] #[]]) rfl 179 _ _ rfl rfl rfl (alloc_block wr _) size_step rfl (step_all _ _) ?_; intro wv hb2 k2 _; have KV := hid (Rq.back HR0.out HQr.out HKr.out ((Kp.alloc (fun k => w.heap.size ≤ k) wr _).trans (k2.imp (fun k _ e => by have := HKr.out.size; omega)))); have HBv := hid hb2; have kv := block_cell hb2; have HZv := hid (k2.blk ((Kp.alloc (fun _ => False) wr _).blk HZr.out id) (fun e => by have := lt_of_block HZr.out; omega)); have HSv := hid (k2.blk ((Kp.alloc (fun _ => False) wr _).blk HSb.out id) (fun e => by have := lt_of_block HSb.out; omega)); clear hb2 k2)
          | (go_at_call 110; clear kv; refine (skip_any KV.out.1 [117, 110, 105, 111, 110]).mono ?_; rw [HWx.out]; rintro e w3 ⟨rfl, hq, hk⟩; have HQ3 := hid hq; have HK3 := hid (KV.out.2.trans hk); have kb := block_cell (hk.blk HBv.out lr); have HZ3 := hid (hk.blk HZv.out (fun e => by omega)); clear hq hk)
          | (go_at_call 187; refine (HC6.out _ _ _ _ rows HQ3.out).mono ?_; rintro e w4 ⟨hk, ⟨j, c', hr, rfl⟩ | ⟨r, j, v, sv4, qs4, hr, rfl, ⟨q, hqx, rfl, hqn⟩, hq, hm, ha⟩⟩; (focus (go_wp2_with fail; exact ⟨rfl, P2.bad (HK3.out.r.trans hk) (by rw [HSp.out]; exact hr)⟩)); have HR4 := hid hr; have HE4 := hid hqx; have HN4 := hid hqn; have HQ4 := hid hq; have HM4 := hid hm; have HA4 := hid ha; have HK4 := hid (HK3.out.r.trans hk); have HZ4 := hid (hk.blk HZ3.out (fun e => by have := HR0.out.T_lt _ e; omega)); clear hk hr hqx hqn hq hm ha)
          | (refine store_nd (q := q) rfl _ _ rfl rfl rfl HN4.out.all HZ4.out rfl ?_; intro w5 h5 k5; have H5 := hid h5; have K5 := hid (box_end HR0.out HK4.out HQ4.out HA4.out (lt_of_block HZ3.out) (Nat.le_refl _) HZ4.out k5 HN4.out); clear h5 k5))
        exact ret_nd rfl rfl H5.out rfl rfl ⟨K5.out.1, .inr ⟨r, j, _, sv4, qs4, by rw [HSp.out]; exact HR4.out, rfl, ⟨q, HE4.out, rfl, K5.out.2.2.1⟩, K5.out.2.1, HM4.out, K5.out.2.2.2⟩⟩
      | false =>
        have HWx := hid hw
        have HI2 : Hid (idxOf ts i stepW 0 = idxOf ts i (stepW.drop (6 + 1)) (6 + 1)) := by show _ = _; rw [HI.out, idx_drop (x := [117, 110, 105, 111, 110]) rfl hw]
        clear hw
        go_wp2_with (first
          | (refine wpList_store_row (cells := #[.string ⟨#[117, 110, 105, 111, 110]⟩, .func (.func 187) #[] #[]]) rfl 179 _ _ rfl rfl rfl (alloc_block wr _) size_step rfl (step_all _ _) ?_; intro wv hb2 k2 _; have KV := hid (Rq.back HR0.out HQr.out HKr.out ((Kp.alloc (fun k => w.heap.size ≤ k) wr _).trans (k2.imp (fun k _ e => by have := HKr.out.size; omega)))); have HBv := hid hb2; have kv := block_cell hb2; have HZv := hid (k2.blk ((Kp.alloc (fun _ => False) wr _).blk HZr.out id) (fun e => by have := lt_of_block HZr.out; omega)); have HSv := hid (k2.blk ((Kp.alloc (fun _ => False) wr _).blk HSb.out id) (fun e => by have := lt_of_block HSb.out; omega)); clear hb2 k2)
          | (go_at_call 110; clear kv; refine (skip_any KV.out.1 [117, 110, 105, 111, 110]).mono ?_; rw [HWx.out]; rintro e w3 ⟨rfl, hq, hk⟩; have HQ3 := hid hq; have HK3 := hid (KV.out.2.trans hk); have HZ3 := hid (hk.blk HZv.out (fun e => by omega)); have HS3 := hid (hk.blk HSv.out nb); clear hq hk))
        go_roundw
        case rel => exact ⟨6 + 1, by omega, by go_num, HI2.out, HQ3.out, HK3.out, HS3.out, HZ3.out⟩
        case measure => simp [intOf]
    | 7, _ =>
      have HO := hid (one_none HI.out (by decide))
      go_wp2_with (go_at_call 145; refine (fail_any HQr.out 120).mono ?_; rintro e w3 ⟨rfl, he⟩; replace he := he.symm; subst he)
      exact ⟨rfl, P2.bad HKr.out.r (by simp only [stepB, HO.out, Rs.and])⟩
set_option maxRecDepth 100000 in
set_option maxHeartbeats 4000000 in
theorem query_of {c : PN} {d : Option PN} (hc : PNc 210 B ts rb tv o c) (hd : Deep 68 B ts rb tv o d) (hgc : GoN ts c) (hgd : ∀ p, d = some p → GoN ts p) : PNc 68 B ts rb tv o (queryB ts c d) := by
  intro w sv i qs h
  have HST := hid (step_of hc hd)
  have HGs := hid (@stepB_go ts c d hgc hgd)
  have HC := hid (fetch_any h)
  have htl := h.tl
  have HQL := hid h.ql
  clear hc hd h hgc hgd
  have M1 : Hid True := trivial
  go_enter Tryz.func68, Tryz.ntmps68
  go_wp2_with (first
    | (go_at_call 109; refine HC.out.mono ?_; rintro e w1 ⟨hk, ⟨j, c', hr, rfl⟩ | ⟨x, j, v, hr, rfl, ⟨q, hqx, rfl, hqn⟩, hq⟩⟩; (focus (go_wp2_with fail; exact ⟨rfl, P2.bad hk.r (by simp only [queryB, hr, Rs.and])⟩)); have HK1 := hid hk; have HQ1 := hid hq; have HR1 := hid hr; have HN1 := hid hqn; have HE1 := hid hqx; have HLl : Hid (qs.length + 1 ≤ j) := (by show _ ≤ _; have g := fetch_go ts _ _ _ hr; have := HQL.out; omega); clear hk hq hr hqn hqx)
    | (go_at_call 108; refine (lay_any HQ1.out HN1.out HLl.out).mono ?_; rintro e w2 ⟨rfl, sv2, hq, ha, hk⟩; have HQ2 := hid hq; have HK2 := hid (HK1.out.r.trans hk); have HA2 := hid (At.trans (At.refl w sv) ha HK1.out.size); clear hq ha hk))
  have HL : Hid (queryB ts c d i (qs.map (·.np)) = stepsL ts (stepB ts c d) ts.length qs.length j ((qs ++ [q]).map (·.np))) := by show _ = _; simp only [queryB, HR1.out, Rs.and]; rw [map_snoc rfl, HE1.out]; simp
  have hq1 : (qs.length : Int) ≤ 1024 := by have := HQ2.out.ql; have := HQ2.out.il; simp at *; omega
  go_loopw [3] (fun u wr => ∃ (f a j : Nat) (sv' : Value) (qs' : List Nd), Hid (queryB ts c d i (qs.map (·.np)) = stepsL ts (stepB ts c d) f a j (qs'.map (·.np))) ∧ Hid (ts.length ≤ f + j ∧ a < qs'.length) ∧ u = .int .i64 (a : Int) ∧ (a : Int) ≤ 1024 ∧ Hid (Rq B ts wr rb tv sv' o j qs') ∧ Hid (Kp (Tq rb sv) w wr) ∧ Hid (At w sv sv')) (fun _ wr => ts.length + 1 - atOf rb wr)
  case atStart => exact ⟨ts.length, qs.length, j, sv2, qs ++ [q], HL.out, ⟨by omega, by simp⟩, rfl, hq1, HQ2.out, HK2.out, HA2.out⟩
  case round =>
    obtain ⟨f, a, j, sv', qs', HM, HF, rfl, ha1, HQr, HKr, HAr⟩ := hrel
    clear HL HR1 HQ1 HQ2 HK1 HK2 HA2 HN1 HE1 HLl hq1
    have HS := hid (skip_any HQr.out wBar)
    cases hw : isW ts j wBar with
    | true =>
      rw [hw] at HS
      obtain ⟨f', rfl⟩ : ∃ f', f = f' + 1 := ⟨f - 1, by have := HF.out; have := isW_lt hw; omega⟩
      have HM2 : Hid (queryB ts c d i (qs.map (·.np)) = (stepB ts c d a (j + 1) (qs'.map (·.np))).and fun r j => stepsL ts (stepB ts c d) f' r.2.length j (r.2 ++ [r.1])) := by show _ = _; rw [HM.out, stepsL, if_pos hw]
      clear hw HM
      go_wp2_with (first
        | (go_at_call 110; refine HS.out.mono ?_; rintro e w3 ⟨rfl, hq, hk⟩; have HQ3 := hid hq; have HK3 := hid (HKr.out.next HAr.out hk.r); clear hq hk)
        | (go_at_call 111; refine (HST.out _ _ _ _ a HQ3.out).mono ?_; rintro e w4 ⟨hk, ⟨j2, c', hr, rfl⟩ | ⟨r, j2, v, sv4, qs4, hr, rfl, ⟨q4, hqx, rfl, hqn⟩, hq, hm, ha⟩⟩; (focus (go_wp2_with fail; exact ⟨rfl, P2.bad (HK3.out.next HAr.out hk) (by rw [HM2.out]; simp only [if_true] at hr; rw [hr]; rfl)⟩)); have HK4 := hid (HK3.out.next HAr.out hk); have HQ4 := hid hq; have HR4 := hid hr; have HN4 := hid hqn; have HE4 := hid hqx; have HMp := hid hm; have HA4 := hid (HAr.out.trans ha HK3.out.size); clear hk hq hr hm ha hqx hqn; have HGo := hid (HGs.out _ _ _ _ _ HR4.out); have HLn := hid (congrArg List.length HMp.out); have HLl : Hid (qs4.length + 1 ≤ j2) := (by show _ ≤ _; have g := HGo.out; have e := HLn.out; have := HQr.out.ql; simp at e g; omega))
        | (go_at_call 108; refine (lay_any HQ4.out HN4.out HLl.out).mono ?_; rintro e w5 ⟨rfl, sv5, hq, ha, hk⟩; have HQ5 := hid hq; have HK5 := hid (HK4.out.next HA4.out hk); have HA5 := hid (HA4.out.trans ha HK4.out.size); clear hq ha hk))
      have g := HGo.out
      have e := HLn.out
      simp only [List.length_map, if_true] at e g
      have e4 := HR4.out
      simp only [if_true] at e4
      go_roundw
      case rel =>
        refine ⟨f', qs4.length, j2, sv5, qs4 ++ [q4], ?_, ⟨by have := HF.out; omega, by simp⟩, rfl, by have := HQ4.out.ql; have := HQ4.out.il; omega, HQ5.out, HK5.out, HA5.out⟩
        show _ = _
        rw [HM2.out, e4, map_snoc HMp.out, e, HE4.out]; rfl
      case measure =>
        rw [HQ5.out.atOf, HQr.out.atOf]; have := HQ5.out.il; omega
    | false =>
      rw [hw] at HS
      have HM2 : Hid (queryB ts c d i (qs.map (·.np)) = .ok (a, qs'.map (·.np)) j) := by
        show _ = _
        rw [HM.out]
        cases f with
        | zero => rfl
        | succ f => rw [stepsL, if_neg (by rw [hw]; decide)]
      clear hw HM
      go_wp2_with (go_at_call 110; refine HS.out.mono ?_; rintro e w3 ⟨rfl, hq, hk⟩; have HQ3 := hid hq; have HK3 := hid (HKr.out.next HAr.out hk.r); clear hq hk)
      go_ret
      exact ⟨HK3.out, .inr ⟨_, j, _, sv', qs', HM2.out, rfl, rfl, HQ3.out, rfl, HAr.out⟩⟩
theorem query_all (B : Nat) (ts : List Tp) (rb : Nat) (tv : Value) : ∀ (d o : Nat), o + d = 16 → PNc 68 B ts rb tv o (queryS ts d)
  | 0, o, h => query_of (d := none) (cond_all B ts rb tv 0 o h) (show o = 16 by omega) (cond_go ts 0) (fun p h => by cases h)
  | d + 1, o, h => query_of (d := some (queryS ts d)) (cond_all B ts rb tv (d + 1) o h) ⟨by omega, query_all B ts rb tv d (o + 1) (by omega)⟩ (cond_go ts (d + 1)) (fun p h => by cases h; exact query_go ts d)
end
end Go.Proofs.YtmpjmimhoikknaaGreatDoor
