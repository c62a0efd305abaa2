/-
  ParseTokens's walk.
-/
import Derived.Test.YtomnjckbgmbgmaaGreatDoorQPRo
import Derived.Test.YtomnjckbgmbgmaaGreatDoorPKt
import Derived.Test.YtomnjckbgmbgmaaGreatDoorQSameQ
namespace Go.Proofs.YtomnjckbgmbgmaaGreatDoor
open Go.RowKit Go.Joins Go.Sort Go.Maps Go.Shelf

theorem SlAt.take {α : Type} {Q : Nat → Prop} {enc : α → List Value} {k : Nat} {w : World} {p : Option Addr} {n cap : Nat} {xs : List α} (h : SlAt Q enc k w (.slice p n cap) xs) (m : Nat) (hm : m ≤ n) : SlAt Q enc k w (.slice p m cap) (xs.take m) := by
  obtain ⟨p', cap', hv, hc, hx⟩ := h
  cases hv
  have hl : (xs.take m).length = m := by rw [List.length_take]; omega
  refine ⟨p, cap, by rw [hl], ⟨by rw [hl]; omega, hc.2⟩, fun hne => ?_⟩
  obtain ⟨b, o, hp, hQ, hj⟩ := hx (fun e => hne (by rw [e]; simp))
  refine ⟨b, o, hp, hQ, fun j x hjx => hj j x ?_⟩
  rw [List.getElem?_take] at hjx
  split at hjx
  · exact hjx
  · cases hjx
theorem info_tok : (Tryz.prog.info? 33).map (fun i => (i.zero, i.size, i.bytes)) = some (some (.agg #[.int .i64 0, .string ⟨#[]⟩, .int .i64 0, .int .i64 0]), 4, 40) := by kernel_rfl
theorem elem_tok : ElemN 22 33 4 40 := by
  obtain ⟨i, hi, h0, h1, h2⟩ := info_parts info_tok
  exact ⟨Tryz.underlying22, by omega, i, _, hi, h0, h1, Nat.le_of_eq h2, rfl⟩
/- Both rows of tokens, while the world grows. -/
structure Tks (w1 : World) (lv ov : Value) (us : List Tp) (W : World) : Prop where
  l : SlAt (fun b => b < w1.heap.size) Tp.cells 4 W lv us
  o : Own Tp.cells 4 33 w1.heap.size W ov us
  k : Below w1.heap.size w1 W
section
variable {w1 W W' : World} {lv ov : Value} {us : List Tp}
theorem Tks.on (h : Tks w1 lv ov us W) (hb : Below W.heap.size W W') : Tks w1 lv ov us W' := ⟨h.l.on hb, h.o.on hb, h.k.trans (hb.mono h.k.size)⟩
theorem Tks.set {b : Nat} {c : Array Value} (h : Tks w1 lv ov us W) (hb : w1.heap.size ≤ b) (hc : W.heap[b]? = some (.cells c 27 (0, 0))) (v : Value) : Tks w1 lv ov us (W.setCell ⟨b, 0, none⟩ v) := by
  have ks : Kp (fun k => k = b) W (W.setCell ⟨b, 0, none⟩ v) := Kp.set (T := fun k => k = b) rfl v
  refine ⟨h.l.kp ks (fun k hk e => by omega), h.o.kp ks (fun g hg e => ?_), h.k.trans (ks.below h.k.size (fun k e => by omega))⟩
  subst e
  obtain ⟨c', fz, hc'⟩ := h.o.kind hg
  rw [hc] at hc'; cases hc'
theorem Tks.sl (h : Tks w1 lv ov us W) : SlAt (fun b => b < W.heap.size) Tp.cells 4 W lv us := h.l.imp (fun b hb => by have := h.k.size; omega)
theorem Tks.so (h : Tks w1 lv ov us W) : SlAt (fun b => b < W.heap.size) Tp.cells 4 W ov us := (h.o.sl tp_len).imp (fun _ hb => hb.2)
end
theorem nq_set {n b : Nat} {W : World} {u : Value} {ns : List Np} {c : Array Value} (h : Nq n W u ns) (hc : W.heap[b]? = some (.cells c 27 (0, 0))) (x : Value) : Nq n (W.setCell ⟨b, 0, none⟩ x) u ns := by
  have ks : Kp (fun k => k = b) W (W.setCell ⟨b, 0, none⟩ x) := Kp.set (T := fun k => k = b) rfl x
  obtain ⟨qs, h1, h2, h3⟩ := h
  refine ⟨qs, h1.kp ks (fun g hg e => ?_), fun q hq => (h2 q hq).kp ks ?_, h3⟩
  · subst e
    obtain ⟨c', fz, hc'⟩ := h1.kind hg
    rw [hc] at hc'; cases hc'
  · rintro k rfl c' t fz hc'
    rw [hc] at hc'; cases hc'; decide
set_option maxRecDepth 100000 in
theorem eql_tok (t : Tp) (w : World) : (Op.equalIn 10000 33 (.agg t.cells.toArray) (.agg t.cells.toArray)).run Tryz.prog w = .ok true w := by
  have u3 := Tryz.underlying3
  have a3' := Tryz.isAgg3
  have z3 := Tryz.sizeOf3
  have u9 := Tryz.underlying9
  have a9' := Tryz.isAgg9
  have z9 := Tryz.sizeOf9
  have hS : Tryz.prog.underlying 33 = some (.struct (Tryz.prog.fieldsOf 33)) := by kernel_rfl
  rw [show (10000 : Nat) = 9999 + 1 from rfl, run_equalIn_agg w 9999 33 _ _ hS Tryz.stoodInHeld33]
  simp only [Program.fieldsOf, Tryz.underlying33, Tp.cells]
  have hb := bytes_beq (St t.s) (St t.s)
  go_simp
section
variable {ts : List Tp} {w : World} {tv : Value}
set_option maxRecDepth 100000 in
set_option maxHeartbeats 1000000 in
theorem toks_cut (htok : SlAt (fun b => b < w.heap.size) Tp.cells 4 w tv ts) : Calls Tryz.prog 10 #[tv] w fun e w' => w' = w ∧ ∃ (v' : Value) (us : List Tp), e = .returned v' ∧ SlAt (fun b => b < w.heap.size) Tp.cells 4 w v' us ∧ us.length ≤ 1100 := by
  obtain ⟨p, cap, rfl, hc1, hc2⟩ := htok.form
  unfold maxLen at hc2
  have HT := hid htok
  by_cases h : 1100 < ts.length
  · have lI : 1100 < (ts.length : Int) := by omega
    have c0 : (1100 : Int) ≤ cap := by omega
    clear htok
    go_enter Tryz.func10, Tryz.ntmps10
    go_wp2_with fail
    go_ret
    exact ⟨rfl, _, _, rfl, HT.out.take 1100 (by omega), by rw [List.length_take]; omega⟩
  · have lI : ¬ 1100 < (ts.length : Int) := by omega
    have HE : Hid (ts.length ≤ 1100) := by show _ ≤ _; omega
    clear htok
    go_enter Tryz.func10, Tryz.ntmps10
    go_wp2_with fail
    go_ret
    first | exact ⟨rfl, _, ts, rfl, HT.out, HE.out⟩ | exact ⟨rfl, _, rfl, ts, HT.out, HE.out⟩
set_option maxRecDepth 100000 in
set_option maxHeartbeats 4000000 in
theorem tokens_any (htok : SlAt (fun b => b < w.heap.size) Tp.cells 4 w tv ts) (hG : Gd w) : Calls Tryz.prog 3 #[tv] w fun e w' => e = .returned (.bool true) ∧ Below w.heap.size w w' := by
  have HS := hid (shown_any w hG)
  have HT := hid htok
  clear hG
  obtain ⟨p0, cap0, rfl, hc1, hc2⟩ := htok.form
  clear htok hc1 hc2
  go_enter Tryz.func3, Tryz.ntmps3
  go_upto_region 3 with (first
    | (go_at_call 9; refine HS.out.mono ?_; rintro e w1 ⟨rfl, hb⟩; have HB1 := hid hb; clear hb)
    | (go_at_call 10; refine (toks_cut ((HT.out.on HB1.out).imp (fun b hb => by have := HB1.out.size; omega))).mono ?_; rintro e w2 ⟨he, v2, us, rfl, ht, hus⟩; replace he := he.symm; subst he; have HT2 := hid ht; obtain ⟨p2, cap2, rfl, hd1, hd2⟩ := ht.form; clear ht))
  have HO1 : Hid (Own Tp.cells 4 33 w1.heap.size (w1.alloc (.cells #[] 33)) (.slice (some ⟨w1.heap.size, 0, none⟩) 0 0) ([] : List Tp)) := Own.blk (e := 33) (B := w1.heap.size) (xs := ([] : List Tp)) tp_len (Nat.le_refl _) (alloc_block w1 (.cells #[] 33)) (by unfold maxLen; simp)
  have HU := hid hus
  have HBa : Hid (Below w1.heap.size w1 (w1.alloc (.cells #[] 33))) := (Below.refl _ _).alloc (Nat.le_refl _) _
  clear HS HT
  cases us with
  | nil =>
    rcases p2 with _ | a2
    · go_upto_region 4 with fail
      have HO5 := HO1
      have HK5 := HBa
      generalize w1.alloc (.cells #[] 33) = w5 at *
      have HK0 : Hid (Tks w1 (.slice none 0 cap2) (.slice (some ⟨w1.heap.size, 0, none⟩) 0 0) ([] : List Tp) w5) := ⟨HT2.out.on HK5.out, HO5.out, HK5.out⟩
      have HP : Hid (∀ {w : World} {tv : Value}, SlAt (fun b => b < w.heap.size) Tp.cells 4 w tv ([] : List Tp) → Calls Tryz.prog 11 #[tv] w (WhP w (parseS ([] : List Tp)))) := fun h => Parse_any h
      have HPR : Hid (∀ {w : World} {tv : Value}, SlAt (fun b => b < w.heap.size) Tp.cells 4 w tv ([] : List Tp) → Calls Tryz.prog 12 #[tv] w (WhP w (parseS ([] : List Tp)))) := fun h => RParse_any h
      have HD : Hid (∀ {w : World} {tv : Value}, SlAt (fun b => b < w.heap.size) Tp.cells 4 w tv ([] : List Tp) → Calls Tryz.prog 14 #[tv] w (WhP w (condW ([] : List Tp)))) := fun h => Cond_any h
      have HDR : Hid (∀ {w : World} {tv : Value}, SlAt (fun b => b < w.heap.size) Tp.cells 4 w tv ([] : List Tp) → Calls Tryz.prog 15 #[tv] w (WhP w (condW ([] : List Tp)))) := fun h => RCond_any h
      generalize parseS ([] : List Tp) = P at *
      generalize condW ([] : List Tp) = C at *
      obtain ⟨A, pa, ea⟩ := P
      obtain ⟨Cn, pc, ec⟩ := C
      have M1 : Hid True := trivial
      clear HO1 HBa HO5 HK5 HT2
      go_upto_region 6 with (first
        | (go_at_call 11; refine (HP.out HK0.out.so).mono ?_; rintro e w6 ⟨va, rfl, hna, hb⟩; obtain ⟨p1, c1, rfl, ca1, ca2⟩ := hna.len; have HBA := hid (hb.alloc hb.size (.cells #[.slice p1 A.length c1] 27)); have HK1 := hid (HK0.out.on HBA.out); have HNA := hid (hna.on ((Below.refl _ _).alloc (Nat.le_refl _) (.cells #[.slice p1 A.length c1] 27))); have HXA := hid (alloc_block w6 (.cells #[.slice p1 A.length c1] 27)); have HbA := hid (Nat.le_trans HK0.out.k.size hb.size); clear hna hb ca1 ca2)
        | (go_at_call 12; refine (HPR.out HK1.out.sl).mono ?_; rintro e w7 ⟨vb, rfl, hnb, hb⟩; obtain ⟨p3, c3, rfl, cb1, cb2⟩ := hnb.len; have HBB := hid (hb.alloc hb.size (.cells #[.slice p3 A.length c3] 27)); have HK2 := hid (HK1.out.on HBB.out); have HNB := hid (hnb.on ((Below.refl _ _).alloc (Nat.le_refl _) (.cells #[.slice p3 A.length c3] 27))); have HXB := hid (alloc_block w7 (.cells #[.slice p3 A.length c3] 27)); have HNA2 := hid (HNA.out.on HBB.out); have HXA2 := hid (block_on HXA.out HBB.out); have HbB := hid (Nat.le_trans HK1.out.k.size hb.size); have HAB : Hid (w6.heap.size ≠ w7.heap.size) := (fun e => by have h1 := lt_of_block HXA.out; have h2 := hb.size; omega); clear hnb hb cb1 cb2))
      generalize w7.alloc (.cells #[.slice p3 A.length c3] 27) = W7 at *
      generalize w6.heap.size = bA at *
      generalize w7.heap.size = bB at *
      have cA := block_cell HXA2.out 0
      have cB := block_cell HXB.out 0
      go_upto_region 7 with (go_at_call 13; refine (same_is (ns := A) HNA2.out HNB.out).mono ?_; rintro e w8 ⟨rfl, hb⟩; have HK3 := hid (HK2.out.on hb); have HXA3 := hid (block_on HXA2.out hb); have HXB3 := hid (block_on HXB.out hb); clear hb)
      clear cA cB HNA HNA2 HNB HXA HXA2 HXB HK1 HK2 HK0
      go_upto_region 8 with (go_at_call 14; refine (HD.out HK3.out.so).mono ?_; rintro e w9 ⟨vc, rfl, hnc, hb⟩; obtain ⟨p4, c4, rfl, cb1, cb2⟩ := hnc.len; have HK4 := hid (HK3.out.on hb); have HXA4 := hid (block_on HXA3.out hb); have HXB4 := hid (block_on HXB3.out hb); have HNC := hid hnc; have cA := block_cell HXA4.out 0; have zA := block_frozen HXA4.out 0; clear hb hnc cb1 cb2)
      have HK5 := hid (HK4.out.set HbA.out HXA4.out (.slice p4 Cn.length c4))
      have HXA5 := hid (q_set HXA4.out (.slice p4 Cn.length c4))
      have HXB5 := hid ((Kp.set (T := fun k => k = bA) (i := 0) rfl (.slice p4 Cn.length c4)).blk HXB4.out (fun e => HAB.out e.symm))
      have HNC5 := hid (nq_set HNC.out HXA4.out (.slice p4 Cn.length c4))
      clear cA zA HXA4 HXB4 HNC
      generalize w9.setCell ⟨bA, 0, none⟩ (.slice p4 Cn.length c4) = W9 at *
      go_upto_region 9 with (go_at_call 15; refine (HDR.out HK5.out.sl).mono ?_; rintro e wa ⟨vd, rfl, hnd, hb⟩; obtain ⟨p6, c6, rfl, cb1, cb2⟩ := hnd.len; have HK6 := hid (HK5.out.on hb); have HXA6 := hid (block_on HXA5.out hb); have HXB6 := hid (block_on HXB5.out hb); have HNC6 := hid (HNC5.out.on hb); have HND := hid hnd; have cB := block_cell HXB6.out 0; have zB := block_frozen HXB6.out 0; clear hb hnd cb1 cb2)
      have HK7 := hid (HK6.out.set HbB.out HXB6.out (.slice p6 Cn.length c6))
      have HXB7 := hid (q_set HXB6.out (.slice p6 Cn.length c6))
      have HXA7 := hid ((Kp.set (T := fun k => k = bB) (i := 0) rfl (.slice p6 Cn.length c6)).blk HXA6.out HAB.out)
      have HNC7 := hid (nq_set HNC6.out HXB6.out (.slice p6 Cn.length c6))
      have HND7 := hid (nq_set HND.out HXB6.out (.slice p6 Cn.length c6))
      clear cB zB
      generalize wa.setCell ⟨bB, 0, none⟩ (.slice p6 Cn.length c6) = Wa at *
      have cA := block_cell HXA7.out 0
      have cB := block_cell HXB7.out 0
      go_upto_region 10 with (go_at_call 13; refine (same_is (ns := Cn) HNC7.out HND7.out).mono ?_; rintro e wb ⟨rfl, hb⟩; have HK8 := hid (HK7.out.on hb); clear hb)
      clear cA cB HP HPR HD HDR HK3 HK4 HK5 HK6 HK7 HXA3 HXB3 HXA5 HXB5 HXA6 HXB6 HXA7 HXB7 HNC5 HNC6 HNC7 HND HND7
      go_upto_region 11 with fail
      go_loopw [17] (fun u wr => ∃ k : Nat, u = .int .i64 k ∧ (k : Int) ≤ 0 ∧ Hid (Tks w1 (.slice none 0 cap2) (.slice (some ⟨w1.heap.size, 0, none⟩) 0 0) ([] : List Tp) wr)) (fun u _ => 0 - (intOf u).toNat)
      case atStart => exact ⟨0, rfl, by omega, HK8.out⟩
      case round =>
        obtain ⟨k, rfl, hk, HKr⟩ := hrel
        clear HK8
        have k0 : (0 : Int) ≤ k := by omega
        have uI : (0 : Int) ≤ 1100 := by have := HU.out; omega
        have hlt : ¬ k < 0 := by omega
        · have kI : ¬ (k : Int) < 0 := by omega
          have b1 : ((pa : Int) == (pa : Int)) = true := by simp
          have b2 : (ea == ea) = true := by simp
          have b3 : ((pc : Int) == (pc : Int)) = true := by simp
          have b4 : (ec == ec) = true := by simp
          clear hlt
          go_wp2_with fail
          go_ret
          exact ⟨rfl, HB1.out.trans (HKr.out.k.mono HB1.out.size)⟩
    · go_upto_region 4 with fail
      have HO5 := HO1
      have HK5 := HBa
      generalize w1.alloc (.cells #[] 33) = w5 at *
      have HK0 : Hid (Tks w1 (.slice (some a2) 0 cap2) (.slice (some ⟨w1.heap.size, 0, none⟩) 0 0) ([] : List Tp) w5) := ⟨HT2.out.on HK5.out, HO5.out, HK5.out⟩
      have HP : Hid (∀ {w : World} {tv : Value}, SlAt (fun b => b < w.heap.size) Tp.cells 4 w tv ([] : List Tp) → Calls Tryz.prog 11 #[tv] w (WhP w (parseS ([] : List Tp)))) := fun h => Parse_any h
      have HPR : Hid (∀ {w : World} {tv : Value}, SlAt (fun b => b < w.heap.size) Tp.cells 4 w tv ([] : List Tp) → Calls Tryz.prog 12 #[tv] w (WhP w (parseS ([] : List Tp)))) := fun h => RParse_any h
      have HD : Hid (∀ {w : World} {tv : Value}, SlAt (fun b => b < w.heap.size) Tp.cells 4 w tv ([] : List Tp) → Calls Tryz.prog 14 #[tv] w (WhP w (condW ([] : List Tp)))) := fun h => Cond_any h
      have HDR : Hid (∀ {w : World} {tv : Value}, SlAt (fun b => b < w.heap.size) Tp.cells 4 w tv ([] : List Tp) → Calls Tryz.prog 15 #[tv] w (WhP w (condW ([] : List Tp)))) := fun h => RCond_any h
      generalize parseS ([] : List Tp) = P at *
      generalize condW ([] : List Tp) = C at *
      obtain ⟨A, pa, ea⟩ := P
      obtain ⟨Cn, pc, ec⟩ := C
      have M1 : Hid True := trivial
      clear HO1 HBa HO5 HK5 HT2
      go_upto_region 6 with (first
        | (go_at_call 11; refine (HP.out HK0.out.so).mono ?_; rintro e w6 ⟨va, rfl, hna, hb⟩; obtain ⟨p1, c1, rfl, ca1, ca2⟩ := hna.len; have HBA := hid (hb.alloc hb.size (.cells #[.slice p1 A.length c1] 27)); have HK1 := hid (HK0.out.on HBA.out); have HNA := hid (hna.on ((Below.refl _ _).alloc (Nat.le_refl _) (.cells #[.slice p1 A.length c1] 27))); have HXA := hid (alloc_block w6 (.cells #[.slice p1 A.length c1] 27)); have HbA := hid (Nat.le_trans HK0.out.k.size hb.size); clear hna hb ca1 ca2)
        | (go_at_call 12; refine (HPR.out HK1.out.sl).mono ?_; rintro e w7 ⟨vb, rfl, hnb, hb⟩; obtain ⟨p3, c3, rfl, cb1, cb2⟩ := hnb.len; have HBB := hid (hb.alloc hb.size (.cells #[.slice p3 A.length c3] 27)); have HK2 := hid (HK1.out.on HBB.out); have HNB := hid (hnb.on ((Below.refl _ _).alloc (Nat.le_refl _) (.cells #[.slice p3 A.length c3] 27))); have HXB := hid (alloc_block w7 (.cells #[.slice p3 A.length c3] 27)); have HNA2 := hid (HNA.out.on HBB.out); have HXA2 := hid (block_on HXA.out HBB.out); have HbB := hid (Nat.le_trans HK1.out.k.size hb.size); have HAB : Hid (w6.heap.size ≠ w7.heap.size) := (fun e => by have h1 := lt_of_block HXA.out; have h2 := hb.size; omega); clear hnb hb cb1 cb2))
      generalize w7.alloc (.cells #[.slice p3 A.length c3] 27) = W7 at *
      generalize w6.heap.size = bA at *
      generalize w7.heap.size = bB at *
      have cA := block_cell HXA2.out 0
      have cB := block_cell HXB.out 0
      go_upto_region 7 with (go_at_call 13; refine (same_is (ns := A) HNA2.out HNB.out).mono ?_; rintro e w8 ⟨rfl, hb⟩; have HK3 := hid (HK2.out.on hb); have HXA3 := hid (block_on HXA2.out hb); have HXB3 := hid (block_on HXB.out hb); clear hb)
      clear cA cB HNA HNA2 HNB HXA HXA2 HXB HK1 HK2 HK0
      go_upto_region 8 with (go_at_call 14; refine (HD.out HK3.out.so).mono ?_; rintro e w9 ⟨vc, rfl, hnc, hb⟩; obtain ⟨p4, c4, rfl, cb1, cb2⟩ := hnc.len; have HK4 := hid (HK3.out.on hb); have HXA4 := hid (block_on HXA3.out hb); have HXB4 := hid (block_on HXB3.out hb); have HNC := hid hnc; have cA := block_cell HXA4.out 0; have zA := block_frozen HXA4.out 0; clear hb hnc cb1 cb2)
      have HK5 := hid (HK4.out.set HbA.out HXA4.out (.slice p4 Cn.length c4))
      have HXA5 := hid (q_set HXA4.out (.slice p4 Cn.length c4))
      have HXB5 := hid ((Kp.set (T := fun k => k = bA) (i := 0) rfl (.slice p4 Cn.length c4)).blk HXB4.out (fun e => HAB.out e.symm))
      have HNC5 := hid (nq_set HNC.out HXA4.out (.slice p4 Cn.length c4))
      clear cA zA HXA4 HXB4 HNC
      generalize w9.setCell ⟨bA, 0, none⟩ (.slice p4 Cn.length c4) = W9 at *
      go_upto_region 9 with (go_at_call 15; refine (HDR.out HK5.out.sl).mono ?_; rintro e wa ⟨vd, rfl, hnd, hb⟩; obtain ⟨p6, c6, rfl, cb1, cb2⟩ := hnd.len; have HK6 := hid (HK5.out.on hb); have HXA6 := hid (block_on HXA5.out hb); have HXB6 := hid (block_on HXB5.out hb); have HNC6 := hid (HNC5.out.on hb); have HND := hid hnd; have cB := block_cell HXB6.out 0; have zB := block_frozen HXB6.out 0; clear hb hnd cb1 cb2)
      have HK7 := hid (HK6.out.set HbB.out HXB6.out (.slice p6 Cn.length c6))
      have HXB7 := hid (q_set HXB6.out (.slice p6 Cn.length c6))
      have HXA7 := hid ((Kp.set (T := fun k => k = bB) (i := 0) rfl (.slice p6 Cn.length c6)).blk HXA6.out HAB.out)
      have HNC7 := hid (nq_set HNC6.out HXB6.out (.slice p6 Cn.length c6))
      have HND7 := hid (nq_set HND.out HXB6.out (.slice p6 Cn.length c6))
      clear cB zB
      generalize wa.setCell ⟨bB, 0, none⟩ (.slice p6 Cn.length c6) = Wa at *
      have cA := block_cell HXA7.out 0
      have cB := block_cell HXB7.out 0
      go_upto_region 10 with (go_at_call 13; refine (same_is (ns := Cn) HNC7.out HND7.out).mono ?_; rintro e wb ⟨rfl, hb⟩; have HK8 := hid (HK7.out.on hb); clear hb)
      clear cA cB HP HPR HD HDR HK3 HK4 HK5 HK6 HK7 HXA3 HXB3 HXA5 HXB5 HXA6 HXB6 HXA7 HXB7 HNC5 HNC6 HNC7 HND HND7
      go_upto_region 11 with fail
      go_loopw [17] (fun u wr => ∃ k : Nat, u = .int .i64 k ∧ (k : Int) ≤ 0 ∧ Hid (Tks w1 (.slice (some a2) 0 cap2) (.slice (some ⟨w1.heap.size, 0, none⟩) 0 0) ([] : List Tp) wr)) (fun u _ => 0 - (intOf u).toNat)
      case atStart => exact ⟨0, rfl, by omega, HK8.out⟩
      case round =>
        obtain ⟨k, rfl, hk, HKr⟩ := hrel
        clear HK8
        have k0 : (0 : Int) ≤ k := by omega
        have uI : (0 : Int) ≤ 1100 := by have := HU.out; omega
        have hlt : ¬ k < 0 := by omega
        · have kI : ¬ (k : Int) < 0 := by omega
          have b1 : ((pa : Int) == (pa : Int)) = true := by simp
          have b2 : (ea == ea) = true := by simp
          have b3 : ((pc : Int) == (pc : Int)) = true := by simp
          have b4 : (ec == ec) = true := by simp
          clear hlt
          go_wp2_with fail
          go_ret
          exact ⟨rfl, HB1.out.trans (HKr.out.k.mono HB1.out.size)⟩
  | cons u0 ur =>
    have HNe : Hid ((u0 :: ur) ≠ []) := by show _ ≠ _; simp
    generalize u0 :: ur = us at *
    go_upto_region 4 with (at_builtin; refine app_N (xs := []) (ys := us) elem_tok tp_len (fun y _ c hc => by simp [Tp.cells] at hc; rcases hc with rfl | rfl | rfl | rfl <;> rfl) rfl _ _ rfl rfl HO1.out rfl (HT2.out.on HBa.out) HNe.out (by have := HU.out; simp; omega) (by decide) (by simp) ?_; intro v5 w5 ho hg; have HO5 := hid ho; have HK5 := hid (HBa.out.trans ((Kp.grown (T := fun k => w1.heap.size ≤ k) hg (fun k e => by cases e; exact Nat.le_refl _)).below HBa.out.size (fun k e => e))); clear ho hg)
    simp only [List.nil_append] at HO5
    have HK0 : Hid (Tks w1 (.slice p2 us.length cap2) v5 us w5) := ⟨HT2.out.on HK5.out, HO5.out, HK5.out⟩
    have HP : Hid (∀ {w : World} {tv : Value}, SlAt (fun b => b < w.heap.size) Tp.cells 4 w tv us → Calls Tryz.prog 11 #[tv] w (WhP w (parseS us))) := fun h => Parse_any h
    have HPR : Hid (∀ {w : World} {tv : Value}, SlAt (fun b => b < w.heap.size) Tp.cells 4 w tv us → Calls Tryz.prog 12 #[tv] w (WhP w (parseS us))) := fun h => RParse_any h
    have HD : Hid (∀ {w : World} {tv : Value}, SlAt (fun b => b < w.heap.size) Tp.cells 4 w tv us → Calls Tryz.prog 14 #[tv] w (WhP w (condW us))) := fun h => Cond_any h
    have HDR : Hid (∀ {w : World} {tv : Value}, SlAt (fun b => b < w.heap.size) Tp.cells 4 w tv us → Calls Tryz.prog 15 #[tv] w (WhP w (condW us))) := fun h => RCond_any h
    obtain ⟨po, co, hvo⟩ := HO5.out.form
    subst hvo
    generalize parseS us = P at *
    generalize condW us = C at *
    obtain ⟨A, pa, ea⟩ := P
    obtain ⟨Cn, pc, ec⟩ := C
    have M1 : Hid True := trivial
    clear HO1 HBa HO5 HK5 HT2
    go_upto_region 6 with (first
      | (go_at_call 11; refine (HP.out HK0.out.so).mono ?_; rintro e w6 ⟨va, rfl, hna, hb⟩; obtain ⟨p1, c1, rfl, ca1, ca2⟩ := hna.len; have HBA := hid (hb.alloc hb.size (.cells #[.slice p1 A.length c1] 27)); have HK1 := hid (HK0.out.on HBA.out); have HNA := hid (hna.on ((Below.refl _ _).alloc (Nat.le_refl _) (.cells #[.slice p1 A.length c1] 27))); have HXA := hid (alloc_block w6 (.cells #[.slice p1 A.length c1] 27)); have HbA := hid (Nat.le_trans HK0.out.k.size hb.size); clear hna hb ca1 ca2)
      | (go_at_call 12; refine (HPR.out HK1.out.sl).mono ?_; rintro e w7 ⟨vb, rfl, hnb, hb⟩; obtain ⟨p3, c3, rfl, cb1, cb2⟩ := hnb.len; have HBB := hid (hb.alloc hb.size (.cells #[.slice p3 A.length c3] 27)); have HK2 := hid (HK1.out.on HBB.out); have HNB := hid (hnb.on ((Below.refl _ _).alloc (Nat.le_refl _) (.cells #[.slice p3 A.length c3] 27))); have HXB := hid (alloc_block w7 (.cells #[.slice p3 A.length c3] 27)); have HNA2 := hid (HNA.out.on HBB.out); have HXA2 := hid (block_on HXA.out HBB.out); have HbB := hid (Nat.le_trans HK1.out.k.size hb.size); have HAB : Hid (w6.heap.size ≠ w7.heap.size) := (fun e => by have h1 := lt_of_block HXA.out; have h2 := hb.size; omega); clear hnb hb cb1 cb2))
    generalize w7.alloc (.cells #[.slice p3 A.length c3] 27) = W7 at *
    generalize w6.heap.size = bA at *
    generalize w7.heap.size = bB at *
    have cA := block_cell HXA2.out 0
    have cB := block_cell HXB.out 0
    go_upto_region 7 with (go_at_call 13; refine (same_is (ns := A) HNA2.out HNB.out).mono ?_; rintro e w8 ⟨rfl, hb⟩; have HK3 := hid (HK2.out.on hb); have HXA3 := hid (block_on HXA2.out hb); have HXB3 := hid (block_on HXB.out hb); clear hb)
    clear cA cB HNA HNA2 HNB HXA HXA2 HXB HK1 HK2 HK0
    go_upto_region 8 with (go_at_call 14; refine (HD.out HK3.out.so).mono ?_; rintro e w9 ⟨vc, rfl, hnc, hb⟩; obtain ⟨p4, c4, rfl, cb1, cb2⟩ := hnc.len; have HK4 := hid (HK3.out.on hb); have HXA4 := hid (block_on HXA3.out hb); have HXB4 := hid (block_on HXB3.out hb); have HNC := hid hnc; have cA := block_cell HXA4.out 0; have zA := block_frozen HXA4.out 0; clear hb hnc cb1 cb2)
    have HK5 := hid (HK4.out.set HbA.out HXA4.out (.slice p4 Cn.length c4))
    have HXA5 := hid (q_set HXA4.out (.slice p4 Cn.length c4))
    have HXB5 := hid ((Kp.set (T := fun k => k = bA) (i := 0) rfl (.slice p4 Cn.length c4)).blk HXB4.out (fun e => HAB.out e.symm))
    have HNC5 := hid (nq_set HNC.out HXA4.out (.slice p4 Cn.length c4))
    clear cA zA HXA4 HXB4 HNC
    generalize w9.setCell ⟨bA, 0, none⟩ (.slice p4 Cn.length c4) = W9 at *
    go_upto_region 9 with (go_at_call 15; refine (HDR.out HK5.out.sl).mono ?_; rintro e wa ⟨vd, rfl, hnd, hb⟩; obtain ⟨p6, c6, rfl, cb1, cb2⟩ := hnd.len; have HK6 := hid (HK5.out.on hb); have HXA6 := hid (block_on HXA5.out hb); have HXB6 := hid (block_on HXB5.out hb); have HNC6 := hid (HNC5.out.on hb); have HND := hid hnd; have cB := block_cell HXB6.out 0; have zB := block_frozen HXB6.out 0; clear hb hnd cb1 cb2)
    have HK7 := hid (HK6.out.set HbB.out HXB6.out (.slice p6 Cn.length c6))
    have HXB7 := hid (q_set HXB6.out (.slice p6 Cn.length c6))
    have HXA7 := hid ((Kp.set (T := fun k => k = bB) (i := 0) rfl (.slice p6 Cn.length c6)).blk HXA6.out HAB.out)
    have HNC7 := hid (nq_set HNC6.out HXB6.out (.slice p6 Cn.length c6))
    have HND7 := hid (nq_set HND.out HXB6.out (.slice p6 Cn.length c6))
    clear cB zB
    generalize wa.setCell ⟨bB, 0, none⟩ (.slice p6 Cn.length c6) = Wa at *
    have cA := block_cell HXA7.out 0
    have cB := block_cell HXB7.out 0
    go_upto_region 10 with (go_at_call 13; refine (same_is (ns := Cn) HNC7.out HND7.out).mono ?_; rintro e wb ⟨rfl, hb⟩; have HK8 := hid (HK7.out.on hb); clear hb)
    clear cA cB HP HPR HD HDR HK3 HK4 HK5 HK6 HK7 HXA3 HXB3 HXA5 HXB5 HXA6 HXB6 HXA7 HXB7 HNC5 HNC6 HNC7 HND HND7
    go_upto_region 11 with fail
    go_loopw [17] (fun u wr => ∃ k : Nat, u = .int .i64 k ∧ (k : Int) ≤ us.length ∧ Hid (Tks w1 (.slice p2 us.length cap2) (.slice po us.length co) us wr)) (fun u _ => us.length - (intOf u).toNat)
    case atStart => exact ⟨0, rfl, by omega, HK8.out⟩
    case round =>
      obtain ⟨k, rfl, hk, HKr⟩ := hrel
      clear HK8
      have k0 : (0 : Int) ≤ k := by omega
      have uI : (us.length : Int) ≤ 1100 := by have := HU.out; omega
      by_cases hlt : k < us.length
      · have kI : (k : Int) < us.length := by omega
        have HLk := hid hlt
        obtain ⟨g1, o1, rfl, -, e1⟩ := HKr.out.l.at (j := k) (List.getElem?_eq_getElem hlt)
        obtain ⟨g2, o2, rfl, -, e2⟩ := HKr.out.so.at (j := k) (List.getElem?_eq_getElem hlt)
        have hq := eql_tok us[k]
        generalize us[k] = t at *
        obtain ⟨tk, tS, tn, ta⟩ := t
        have f0 : wr.cell? ⟨g1, o1 + k * 4, none⟩ = some (.int .i64 tk) := e1 0 _ rfl
        have f1 : wr.cell? ⟨g1, o1 + k * 4 + 1, none⟩ = some (.string (St tS)) := e1 1 _ rfl
        have f2 : wr.cell? ⟨g1, o1 + k * 4 + 2, none⟩ = some (.int .i64 tn) := e1 2 _ rfl
        have f3 : wr.cell? ⟨g1, o1 + k * 4 + 3, none⟩ = some (.int .i64 ta) := e1 3 _ rfl
        have g0' : wr.cell? ⟨g2, o2 + k * 4, none⟩ = some (.int .i64 tk) := e2 0 _ rfl
        have g1' : wr.cell? ⟨g2, o2 + k * 4 + 1, none⟩ = some (.string (St tS)) := e2 1 _ rfl
        have g2' : wr.cell? ⟨g2, o2 + k * 4 + 2, none⟩ = some (.int .i64 tn) := e2 2 _ rfl
        have g3' : wr.cell? ⟨g2, o2 + k * 4 + 3, none⟩ = some (.int .i64 ta) := e2 3 _ rfl
        simp only [Tp.cells] at hq
        clear e1 e2 hlt
        go_upto_region 13 with fail
        go_quiet (fail)
        have HKq := hid (HKr.out.on (below_drewN (Below.refl _ _) nq))
        clear f0 f1 f2 f3 g0' g1' g2' g3' hq
        generalize wr.drewN nq = Wq at *
        go_wp2_with fail
        go_roundw
        case rel => exact ⟨k + 1, by simp, by omega, HKq.out⟩
        case measure => simp [intOf]; have := HLk.out; omega
      · have kI : ¬ (k : Int) < us.length := by omega
        have b1 : ((pa : Int) == (pa : Int)) = true := by simp
        have b2 : (ea == ea) = true := by simp
        have b3 : ((pc : Int) == (pc : Int)) = true := by simp
        have b4 : (ec == ec) = true := by simp
        clear hlt
        go_wp2_with fail
        go_ret
        exact ⟨rfl, HB1.out.trans (HKr.out.k.mono HB1.out.size)⟩
end
end Go.Proofs.YtomnjckbgmbgmaaGreatDoor
