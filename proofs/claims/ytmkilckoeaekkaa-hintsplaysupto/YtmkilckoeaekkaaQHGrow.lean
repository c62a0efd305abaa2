/-
  What HintsGrow returns, for any hosts and any nodes.
-/
import Derived.Test.YtmkilckoeaekkaaQHFam
import Derived.Deep.DeepCutAuto
namespace Go.Proofs.Ytmkilckoeaekkaa
open Go.RowKit Go.Sort Go.Maps Go.Shelf

abbrev E1 (b o : Nat) (v : Value) (w : World) : Prop := w.cell? ⟨b, o, none⟩ = some v
theorem e1D {b o : Nat} {v : Value} {w : World} (h : E1 b o v w) : E1 b o v w.drew := h
theorem e1On {b o : Nat} {v : Value} {w w' : World} (h : E1 b o v w) (hb : Below w.heap.size w w') : E1 b o v w' := (hb.cell (p := ⟨b, o, none⟩) (block_lt_of_cell h)).trans h
/- A row of texts that is handed in. -/
structure Ho (B : Nat) (w : World) (v : Value) (l : List ByteArray) : Prop where
  sl : SlAt (fun k => k < B) str1 1 w v l
  each : ∀ s ∈ l, s.size ≤ 562949953421312
theorem Ho.kp {B : Nat} {T : Nat → Prop} {w w' : World} {v : Value} {l : List ByteArray} (h : Ho B w v l) (hk : Kp T w w') (ht : ∀ k, T k → B ≤ k) : Ho B w' v l := ⟨h.sl.kp hk (fun b hb ht' => by have := ht b ht'; omega), h.each⟩
theorem Ho.bel {B : Nat} {w w' : World} {v : Value} {l : List ByteArray} (h : Ho B w v l) (hb : Below B w w') : Ho B w' v l := by
  obtain ⟨p, cap, hv, hc, hx⟩ := h.sl
  refine ⟨⟨p, cap, hv, hc, fun hne => ?_⟩, h.each⟩
  obtain ⟨b, o, hp, hQ, hj⟩ := hx hne
  exact ⟨b, o, hp, hQ, fun j x hjx i u hu => (hb.cell (p := ⟨b, o + j * 1 + i, none⟩) hQ).trans (hj j x hjx i u hu)⟩
theorem Ho.at {B : Nat} {w : World} {p : Option Addr} {n c : Nat} {l : List ByteArray} (h : Ho B w (.slice p n c) l) {k : Nat} {s : ByteArray} (hk : l[k]? = some s) : ∃ b o, p = some ⟨b, o, none⟩ ∧ b < B ∧ w.cell? ⟨b, o + k, none⟩ = some (.string s) ∧ s.size ≤ 562949953421312 := by
  obtain ⟨b, o, hp, hQ, hc⟩ := h.sl.at hk
  exact ⟨b, o, hp, hQ, by simpa using hc 0 _ rfl, h.each s (List.mem_of_getElem? hk)⟩
/- Nodes that are handed in. -/
theorem Qn.bel {B : Nat} {w w' : World} {v : Value} {ns : List (Nd × List Int)} (h : Qn (fun k => k < B) w v ns) (hb : Below B w w') : Qn (fun k => k < B) w' v ns := by
  refine ⟨?_, fun x hx => ⟨(h.each x hx).1, (h.each x hx).2.1, ?_, (h.each x hx).2.2.2⟩, h.len⟩
  · obtain ⟨p, cap, hv, hc, hx⟩ := h.sl
    refine ⟨p, cap, hv, hc, fun hne => ?_⟩
    obtain ⟨b, o, hp, hQ, hj⟩ := hx hne
    exact ⟨b, o, hp, hQ, fun j x hjx i u hu => (hb.cell (p := ⟨b, o + j * 19 + i, none⟩) hQ).trans (hj j x hjx i u hu)⟩
  · obtain ⟨p, cap, hv, hc, hx⟩ := (h.each x hx).2.2.1
    refine ⟨p, cap, hv, hc, fun hne => ?_⟩
    obtain ⟨b, o, hp, hQ, hj⟩ := hx hne
    exact ⟨b, o, hp, hQ, fun j x hjx i u hu => (hb.cell (p := ⟨b, o + j * 1 + i, none⟩) hQ).trans (hj j x hjx i u hu)⟩
theorem Qn.take {Q : Nat → Prop} {w : World} {p : Option Addr} {n c : Nat} {ns : List (Nd × List Int)} (h : Qn Q w (.slice p n c) ns) (k : Nat) (hk : k ≤ n) : Qn Q w (.slice p k c) (ns.take k) := by
  obtain ⟨p', cap, hv, hc, hx⟩ := h.sl
  cases hv
  have hl : (ns.take k).length = k := by simp; omega
  refine ⟨⟨p, c, by rw [hl], ⟨by rw [hl]; omega, hc.2⟩, fun hne => ?_⟩, fun x hx' => h.each x (List.mem_of_mem_take hx'), by rw [hl]; have := h.len; omega⟩
  obtain ⟨b, o, hp, hQ, hj⟩ := hx (by intro e; subst e; simp at hne)
  refine ⟨b, o, hp, hQ, fun j x hjx => hj j x ?_⟩
  rw [List.getElem?_take] at hjx
  split at hjx
  · exact hjx
  · cases hjx
/- A query in its box. -/
structure Bx (B qb : Nat) (w : World) (v : Value) (ns : List (Nd × List Int)) : Prop where
  blk : w.heap[qb]? = some (.cells #[v] 26)
  qn : Qn (fun k => k < B) w v ns
theorem Bx.step {B qb : Nat} {w w' : World} {v : Value} {ns : List (Nd × List Int)} (h : Bx B qb w v ns) (hk : Kc w w') (hb : Below B w w') : Bx B qb w' v ns := ⟨hk _ _ _ _ h.blk (by decide), h.qn.bel hb⟩
theorem Bx.on {B qb : Nat} {w w' : World} {v : Value} {ns : List (Nd × List Int)} (h : Bx B qb w v ns) (hB : B ≤ w.heap.size) (hb : Below w.heap.size w w') : Bx B qb w' v ns := h.step (Kc.of hb) (hb.mono hB)
set_option maxRecDepth 100000 in
set_option maxHeartbeats 8000000 in
theorem grow_any {w : World} {av bv qv : Value} {A Bs : List ByteArray} {ns : List (Nd × List Int)} (ha : Ho w.heap.size w av A) (hb : Ho w.heap.size w bv Bs) (hq : Qn (fun k => k < w.heap.size) w qv ns) :
    Calls Try.prog 5 #[av, bv, .agg #[qv]] w fun e w' => e = .returned (.bool true) ∧ Below w.heap.size w w' := by
  have HA := hid ha
  have HBs := hid hb
  have HQ := hid hq
  obtain ⟨pa, ca, rfl, ha1, ha2⟩ := ha.sl.form
  obtain ⟨pb, cb, rfl, hb1, hb2⟩ := hb.sl.form
  obtain ⟨pq, cq, rfl, hq1, hq2⟩ := hq.sl.form
  clear ha hb hq
  unfold maxLen at ha2 hb2 hq2
  generalize hna : A.length = na at *
  generalize hnb : Bs.length = nb at *
  generalize hnq : ns.length = nq at *
  have HNa := hid hna
  have HNb := hid hnb
  have HNq := hid hnq
  clear hna hnb hnq
  have HBx0 : Hid ((w.alloc (.cells #[.slice pq nq cq] 26)).heap[w.heap.size]? = some (.cells #[.slice pq nq cq] 26)) := alloc_block _ _
  have HF0 : Hid (Fx w [] (w.alloc (.cells #[.slice pq nq cq] 26))) := (Fx.start w).on ((Below.refl _ _).alloc (Nat.le_refl _) _)
  go_enter Try.func5, Try.ntmps5
  go_upto_region 1 with fail
  generalize w.alloc (.cells #[.slice pq nq cq] 26) = W0 at *
  go_upto_region 6 with (first
    | (go_at_call 6; refine (shown_any _).mono ?_; rintro e w1 ⟨rfl, hb⟩; have HB1 := hid (block_on HBx0.out hb); have HF1 := hid (HF0.out.on hb); clear hb; have M1 : Hid True := trivial)
    | (go_at_call 7; clear M1; refine (fx_new HF1.out).mono ?_; rintro e w2 ⟨x, rfl, hf, hb⟩; have HB2 := hid (block_on HB1.out hb); have HF2 := hid hf; clear hf hb)
    | (go_at_call 7; refine (fx_new HF2.out).mono ?_; rintro e w3 ⟨y, rfl, hf, hb⟩; have HB3 := hid (block_on HB2.out hb); have HF3 : Hid (Fx w [⟨0, x, Ix.none⟩, ⟨0, y, Ix.none⟩] w3) := hf; clear hf hb))
  clear HB1 HB2 HF0 HF1 HF2 HBx0
  have k3 := block_cell HB3.out
  have f3 := block_frozen HB3.out
  have l3 := lt_of_block HB3.out
  go_upto_if 32 with fail
  go_cut [6] from 33 to 36 (fun rv wx => rv = .bool false ∧ ∃ (n2 : Nat) (ms : List (Nd × List Int)), (n2 ≤ 100 ∧ ms.length = n2) ∧ Hid (Bx w.heap.size w.heap.size wx (.slice pq n2 cq) ms) ∧ Hid (Fx w [⟨0, x, Ix.none⟩, ⟨0, y, Ix.none⟩] wx))
  case first =>
    have hq3 := HQ.out.bel HF3.out.bel
    by_cases h100 : 100 < nq
    · have HQ3 := hid hq3
      clear hq3
      go_wp2
      go_meet
      refine ⟨rfl, 100, ns.take 100, ⟨Nat.le_refl _, by simp; have := HNq.out; omega⟩, ⟨block_set HB3.out 0 _, ?_⟩, HF3.out.kpC (Kp.set (T := fun k => k = w.heap.size) rfl _) HB3.out (by decide) (Nat.le_refl _)⟩
      exact (HQ3.out.take 100 (by omega)).kp (T := fun k => k = w.heap.size) (Kp.set (T := fun k => k = w.heap.size) rfl _) (fun k hk e => by omega)
    · have HQ3 := hid hq3
      clear hq3
      go_wp2
      go_meet
      exact ⟨rfl, nq, ns, ⟨by omega, HNq.out⟩, ⟨HB3.out, HQ3.out⟩, HF3.out⟩
  case rest =>
    obtain ⟨rfl, n2, ms, ⟨hn2, hms⟩, HBx, HFx⟩ := hcut
    clear HB3 HF3 k3 f3 l3 HQ HNq
    go_wp2_with fail
    go_loopw [10] (fun i wr => ∃ k : Nat, (k ≤ na ∧ k ≤ 40) ∧ i = .int .i64 k ∧ Hid (Bx w.heap.size w.heap.size wr (.slice pq n2 cq) ms) ∧ Hid (Fx w [⟨3 * k, x, addHs Ix.none (A.take k)⟩, ⟨0, y, Ix.none⟩] wr)) (fun i _ => 40 - (intOf i).toNat)
    case atStart => exact ⟨0, by omega, rfl, HBx, HFx⟩
    case round =>
      clear HBx HFx
      obtain ⟨k, hk, rfl, HBx, HFx⟩ := hrel
      by_cases hlt : k < na ∧ k < 40
      · obtain ⟨h1, h2⟩ := hlt
        obtain ⟨s, hs⟩ : ∃ s, A[k]? = some s := ⟨A[k]'(by rw [HNa.out]; omega), List.getElem?_eq_getElem _⟩
        obtain ⟨bs, os, rfl, hbs, c0, hss⟩ := (HA.out.bel HFx.out.bel).at hs
        have hS0 : E1 bs (os + k) (.string s) wr := c0
        have HT := hid (addHs_take (x := Ix.none) hs)
        have HSs := hid hss
        have HBs0 := hid hbs
        clear hs c0 hss hbs
        have i1 : (0 : Int) ≤ (k : Int) := by omega
        have i2 : (k : Int) < (na : Int) := by omega
        go_upto_region 11 with fail
        go_region_held3 (E1 bs (os + k) (.string s)) (((repeat (first | (with_reducible refine e1D ?_))); (with_reducible assumption)))
          (first
          | (go_at_call 20; refine (load_any _).mono ?_; rintro e w2 ⟨ks, vs, rfl, h1, h2, hb⟩; have S1 := hid h1; have S2 := hid h2; have HB1 := hid hb; have hS1 := e1On (e1D hS0) hb; clear h1 h2 hb)
          | (go_at_call 21; refine (point_any _ _).mono ?_; rintro e w3 ⟨pk, pv, rfl, h1, h2, hb⟩; have S3 := hid h1; have S4 := hid h2; have HB2 := hid hb; have hS2 := e1On hS1 hb; clear h1 h2 hb)
          | (go_at_call 9; refine (fx_add (w := wr.drew) (i := 0) (HFx.out.on (Below.refl _ _).drew) rfl (by omega) HSs.out HB1.out HB2.out S1.out S2.out S3.out S4.out).mono ?_; rintro e w4 ⟨rfl, hf, hkc, hb4⟩; have HF4 := hid hf; have HK4 := hid hkc; have HB4 := hid hb4; have hS4 : E1 bs (os + k) (.string s) w4 := (hb4.cell (p := ⟨bs, os + k, none⟩) HBs0.out).trans hS0; clear hf hkc hb4))
        clear hS4 hS2 hS1 hS0
        go_wp2
        go_roundw
        case rel =>
          refine ⟨k + 1, by omega, by go_num, HBx.out.step HK4.out ((Below.refl _ _).drew.trans HB4.out), ?_⟩
          have := HF4.out
          show Fx _ _ _
          rw [HT.out]
          exact this
        case measure => simp [intOf]; omega
      · have HFe : Hid (Fx w [⟨3 * k, x, addHs Ix.none (A.take 40)⟩, ⟨0, y, Ix.none⟩] wr) := by
          have e0 : A.take k = A.take 40 := by
            by_cases h40 : k = 40
            · rw [h40]
            · rw [List.take_of_length_le (by rw [HNa.out]; omega), List.take_of_length_le (by rw [HNa.out]; omega)]
          rw [← e0]; exact HFx.out
        generalize hX : addHs Ix.none (A.take 40) = X at *
        have HX := hid hX
        clear HFx hX
        have hk40 : k ≤ 40 := hk.2
        obtain ⟨W1, hW1⟩ : ∃ W, W = wr := ⟨wr, rfl⟩
        subst hW1
        go_upto_region 9 with fail
        go_cut [44] from 37 to 54 (fun cv wx => cv = .bool false ∧ wx = W1)
        case first =>
          rcases (show ¬ k < na ∨ (k < na ∧ ¬ k < 40) by omega) with h1 | ⟨h1, h2⟩
          · go_wp2
            go_meet
            exact ⟨rfl, rfl⟩
          · go_wp2
            go_meet
            exact ⟨by simp; omega, rfl⟩
        case rest =>
          obtain ⟨hu44, hwc⟩ := hcut
          subst hu44
          replace hwc := hwc.symm
          subst hwc
          go_upto_region 12 with fail
          have HSA : Hid (X.seen loadB = decide (0 < na)) := by
            show _ = _
            rw [← HX.out, addHs_seen, List.length_take, HNa.out]
            show (false || decide (0 < min 40 na)) = _
            rw [Bool.false_or]; congr 1; apply propext; omega
          clear hk HNa HA
          go_wp2_with fail
          go_loopw [11] (fun i wr => ∃ k2 : Nat, (k2 ≤ nb ∧ k2 ≤ 40) ∧ i = .int .i64 k2 ∧ Hid (Bx w.heap.size w.heap.size wr (.slice pq n2 cq) ms) ∧ Hid (Fx w [⟨3 * k, x, X⟩, ⟨3 * k2, y, addHs Ix.none (Bs.take k2)⟩] wr)) (fun i _ => 40 - (intOf i).toNat)
          case atStart => exact ⟨0, by omega, rfl, HBx, HFe⟩
          case round =>
            clear HBx HFe
            obtain ⟨k2, hk, rfl, HBx, HFx⟩ := hrel
            by_cases hlt : k2 < nb ∧ k2 < 40
            · obtain ⟨h1, h2⟩ := hlt
              obtain ⟨s, hs⟩ : ∃ s, Bs[k2]? = some s := ⟨Bs[k2]'(by rw [HNb.out]; omega), List.getElem?_eq_getElem _⟩
              obtain ⟨bs, os, rfl, hbs, c0, hss⟩ := (HBs.out.bel HFx.out.bel).at hs
              have hS0 : E1 bs (os + k2) (.string s) wr := c0
              have HT := hid (addHs_take (x := Ix.none) hs)
              have HSs := hid hss
              have HBs0 := hid hbs
              clear hs c0 hss hbs
              have i1 : (0 : Int) ≤ (k2 : Int) := by omega
              have i2 : (k2 : Int) < (nb : Int) := by omega
              go_upto_region 15 with fail
              go_region_held3 (E1 bs (os + k2) (.string s)) (((repeat (first | (with_reducible refine e1D ?_))); (with_reducible assumption)))
                (first
                | (go_at_call 20; refine (load_any _).mono ?_; rintro e w2 ⟨ks, vs, rfl, h1, h2, hb⟩; have S1 := hid h1; have S2 := hid h2; have HB1 := hid hb; have hS1 := e1On (e1D hS0) hb; clear h1 h2 hb)
                | (go_at_call 21; refine (point_any _ _).mono ?_; rintro e w3 ⟨pk, pv, rfl, h1, h2, hb⟩; have S3 := hid h1; have S4 := hid h2; have HB2 := hid hb; have hS2 := e1On hS1 hb; clear h1 h2 hb)
                | (go_at_call 9; refine (fx_add (w := wr.drew) (i := 1) (HFx.out.on (Below.refl _ _).drew) rfl (by omega) HSs.out HB1.out HB2.out S1.out S2.out S3.out S4.out).mono ?_; rintro e w4 ⟨rfl, hf, hkc, hb4⟩; have HF4 := hid hf; have HK4 := hid hkc; have HB4 := hid hb4; have hS4 : E1 bs (os + k2) (.string s) w4 := (hb4.cell (p := ⟨bs, os + k2, none⟩) HBs0.out).trans hS0; clear hf hkc hb4))
              clear hS4 hS2 hS1 hS0
              go_wp2
              go_roundw
              case rel =>
                refine ⟨k2 + 1, by omega, by go_num, HBx.out.step HK4.out ((Below.refl _ _).drew.trans HB4.out), ?_⟩
                have := HF4.out
                show Fx _ _ _
                rw [HT.out]
                exact this
              case measure => simp [intOf]; omega
            · have HFe : Hid (Fx w [⟨3 * k, x, X⟩, ⟨3 * k2, y, addHs Ix.none (Bs.take 40)⟩] wr) := by
                have e0 : Bs.take k2 = Bs.take 40 := by
                  by_cases h40 : k2 = 40
                  · rw [h40]
                  · rw [List.take_of_length_le (by rw [HNb.out]; omega), List.take_of_length_le (by rw [HNb.out]; omega)]
                rw [← e0]; exact HFx.out
              generalize hY : addHs Ix.none (Bs.take 40) = Y at *
              have HY := hid hY
              clear HFx hY
              have hk40' : k2 ≤ 40 := hk.2
              obtain ⟨W2, hW2⟩ : ∃ W, W = wr := ⟨wr, rfl⟩
              subst hW2
              go_upto_region 13 with fail
              go_cut [62] from 55 to 72 (fun cv wx => cv = .bool false ∧ wx = W2)
              case first =>
                rcases (show ¬ k2 < nb ∨ (k2 < nb ∧ ¬ k2 < 40) by omega) with h1 | ⟨h1, h2⟩
                · go_wp2
                  go_meet
                  exact ⟨rfl, rfl⟩
                · go_wp2
                  go_meet
                  exact ⟨by simp; omega, rfl⟩
              case rest =>
                obtain ⟨hu62, hwc⟩ := hcut
                subst hu62
                replace hwc := hwc.symm
                subst hwc
                go_upto_region 16 with fail
                have HSB : Hid (Y.seen loadB = decide (0 < nb)) := by
                  show _ = _
                  rw [← HY.out, addHs_seen, List.length_take, HNb.out]
                  show (false || decide (0 < min 40 nb)) = _
                  rw [Bool.false_or]; congr 1; apply propext; omega
                clear hk HNb HBs
                have M1 : Hid True := trivial
                have M2 : Hid True := trivial
                go_wp2_with (first
                  | (go_at_call 13; clear M1; refine (fx_clone (i := 0) HFe.out rfl (by unfold maxLen; omega)).mono ?_; rintro e w5 ⟨c, rfl, hf, hb⟩; have HF5 : Hid (Fx w [⟨3 * k, x, X⟩, ⟨3 * k2, y, Y⟩, ⟨3 * k, c, X⟩] w5) := hf; replace HBx := hid (HBx.out.on HFe.out.bel.size hb); clear HFe hf hb)
                  | (go_at_call 13; refine (fx_clone (i := 1) HF5.out rfl (by unfold maxLen; omega)).mono ?_; rintro e w6 ⟨d, rfl, hf, hb⟩; have HF6 : Hid (Fx w [⟨3 * k, x, X⟩, ⟨3 * k2, y, Y⟩, ⟨3 * k, c, X⟩, ⟨3 * k2, d, Y⟩] w6) := hf; replace HBx := hid (HBx.out.on HF5.out.bel.size hb); clear HF5 hf hb)
                  | (go_at_call 11; clear M2; refine (fx_join (i := 2) (j := 1) HF6.out rfl rfl (by omega) (by unfold maxLen; omega)).mono ?_; rintro e w7 ⟨rfl, hf, hkc, hb⟩; have HF7 : Hid (Fx w [⟨3 * k, x, X⟩, ⟨3 * k2, y, Y⟩, ⟨3 * k + 3 * k2, c, X.join Y⟩, ⟨3 * k2, d, Y⟩] w7) := hf; replace HBx := hid (HBx.out.step hkc hb); clear HF6 hf hb hkc)
                  | (go_at_call 11; refine (fx_join (i := 3) (j := 0) HF7.out rfl rfl (by omega) (by unfold maxLen; omega)).mono ?_; rintro e w8 ⟨rfl, hf, hkc, hb⟩; have HF8 : Hid (Fx w [⟨3 * k, x, X⟩, ⟨3 * k2, y, Y⟩, ⟨3 * k + 3 * k2, c, X.join Y⟩, ⟨3 * k2 + 3 * k, d, Y.join X⟩] w8) := hf; replace HBx := hid (HBx.out.step hkc hb); clear HF7 hf hb hkc))
                have HSJ : Hid ((X.join Y).seen loadB = (decide (0 < na) || decide (0 < nb))) := by show (X.seen loadB || Y.seen loadB) = _; rw [HSA.out, HSB.out]
                have HL1 := hid (Ix.le_left X Y)
                have HL2 := hid (Ix.le_right X Y)
                rw [Ix.join_comm Y X] at HF8
                generalize X.join Y = J at *
                go_loopw [14] (fun i wr => ∃ j : Nat, j ≤ n2 ∧ i = .int .i64 j ∧ Hid (Bx w.heap.size w.heap.size wr (.slice pq n2 cq) ms) ∧ Hid (Fx w [⟨3 * k, x, X⟩, ⟨3 * k2, y, Y⟩, ⟨3 * k + 3 * k2, c, J⟩, ⟨3 * k2 + 3 * k, d, J⟩] wr)) (fun i _ => n2 - (intOf i).toNat)
                case atStart => exact ⟨0, by omega, rfl, HBx, HF8⟩
                case round =>
                  clear HBx HF8
                  obtain ⟨j, hj, rfl, HBx, HFx⟩ := hrel
                  have kq := block_cell HBx.out.blk
                  have lq := lt_of_block HBx.out.blk
                  by_cases hlt : j < n2
                  · obtain ⟨r, hr⟩ : ∃ r, might KK J loadB (qs ms) (j : Int) = r := ⟨_, rfl⟩
                    obtain ⟨rx, hrx⟩ : ∃ r, might KK X loadB (qs ms) (j : Int) = r := ⟨_, rfl⟩
                    obtain ⟨ry, hry⟩ : ∃ r, might KK Y loadB (qs ms) (j : Int) = r := ⟨_, rfl⟩
                    have hx1 : rx = true → r = true := fun e => by rw [← hr]; exact might_mono HL1.out _ _ _ (by rw [hrx]; exact e)
                    have hy1 : ry = true → r = true := fun e => by rw [← hr]; exact might_mono HL2.out _ _ _ (by rw [hry]; exact e)
                    have HR := hid hr
                    have HRx := hid hrx
                    have HRy := hid hry
                    clear hr hrx hry
                    have N1 : Hid True := trivial
                    have N2 : Hid True := trivial
                    have N3 : Hid True := trivial
                    cases r with
                    | false =>
                      obtain rfl : rx = false := by cases rx <;> simp_all
                      obtain rfl : ry = false := by cases ry <;> simp_all
                      go_wp2_with (first
                        | (go_at_call 18; clear N1; refine (fx_might (i := 2) HFx.out rfl HBx.out.qn (by decide) (by omega) HR.out).mono ?_; rintro e w9 ⟨rfl, hf, hb⟩; replace HBx := hid (HBx.out.on HFx.out.bel.size hb); replace HFx := hid hf; replace kq := block_cell HBx.out.blk; replace lq := lt_of_block HBx.out.blk; clear hf hb)
                        | (go_at_call 18; clear N2; refine (fx_might (i := 3) HFx.out rfl HBx.out.qn (by decide) (by omega) HR.out).mono ?_; rintro e w9 ⟨rfl, hf, hb⟩; replace HBx := hid (HBx.out.on HFx.out.bel.size hb); replace HFx := hid hf; replace kq := block_cell HBx.out.blk; replace lq := lt_of_block HBx.out.blk; clear hf hb)
                        | (go_at_call 18; clear N3; refine (fx_might (i := 0) HFx.out rfl HBx.out.qn (by decide) (by omega) HRx.out).mono ?_; rintro e w9 ⟨rfl, hf, hb⟩; replace HBx := hid (HBx.out.on HFx.out.bel.size hb); replace HFx := hid hf; replace kq := block_cell HBx.out.blk; replace lq := lt_of_block HBx.out.blk; clear hf hb)
                        | (go_at_call 18; refine (fx_might (i := 1) HFx.out rfl HBx.out.qn (by decide) (by omega) HRy.out).mono ?_; rintro e w9 ⟨rfl, hf, hb⟩; replace HBx := hid (HBx.out.on HFx.out.bel.size hb); replace HFx := hid hf; replace kq := block_cell HBx.out.blk; replace lq := lt_of_block HBx.out.blk; clear hf hb))
                      go_roundw
                      case rel => exact ⟨j + 1, by omega, by go_num, HBx, HFx⟩
                      case measure => simp [intOf]; omega
                    | true =>
                      cases rx with
                      | false =>
                        cases ry with
                        | false =>
                          go_wp2_with (first
                            | (go_at_call 18; clear N1; refine (fx_might (i := 2) HFx.out rfl HBx.out.qn (by decide) (by omega) HR.out).mono ?_; rintro e w9 ⟨rfl, hf, hb⟩; replace HBx := hid (HBx.out.on HFx.out.bel.size hb); replace HFx := hid hf; replace kq := block_cell HBx.out.blk; replace lq := lt_of_block HBx.out.blk; clear hf hb)
                            | (go_at_call 18; clear N2; refine (fx_might (i := 3) HFx.out rfl HBx.out.qn (by decide) (by omega) HR.out).mono ?_; rintro e w9 ⟨rfl, hf, hb⟩; replace HBx := hid (HBx.out.on HFx.out.bel.size hb); replace HFx := hid hf; replace kq := block_cell HBx.out.blk; replace lq := lt_of_block HBx.out.blk; clear hf hb)
                            | (go_at_call 18; clear N3; refine (fx_might (i := 0) HFx.out rfl HBx.out.qn (by decide) (by omega) HRx.out).mono ?_; rintro e w9 ⟨rfl, hf, hb⟩; replace HBx := hid (HBx.out.on HFx.out.bel.size hb); replace HFx := hid hf; replace kq := block_cell HBx.out.blk; replace lq := lt_of_block HBx.out.blk; clear hf hb)
                            | (go_at_call 18; refine (fx_might (i := 1) HFx.out rfl HBx.out.qn (by decide) (by omega) HRy.out).mono ?_; rintro e w9 ⟨rfl, hf, hb⟩; replace HBx := hid (HBx.out.on HFx.out.bel.size hb); replace HFx := hid hf; replace kq := block_cell HBx.out.blk; replace lq := lt_of_block HBx.out.blk; clear hf hb))
                          go_roundw
                          case rel => exact ⟨j + 1, by omega, by go_num, HBx, HFx⟩
                          case measure => simp [intOf]; omega
                        | true =>
                          go_wp2_with (first
                            | (go_at_call 18; clear N1; refine (fx_might (i := 2) HFx.out rfl HBx.out.qn (by decide) (by omega) HR.out).mono ?_; rintro e w9 ⟨rfl, hf, hb⟩; replace HBx := hid (HBx.out.on HFx.out.bel.size hb); replace HFx := hid hf; replace kq := block_cell HBx.out.blk; replace lq := lt_of_block HBx.out.blk; clear hf hb)
                            | (go_at_call 18; clear N2; refine (fx_might (i := 3) HFx.out rfl HBx.out.qn (by decide) (by omega) HR.out).mono ?_; rintro e w9 ⟨rfl, hf, hb⟩; replace HBx := hid (HBx.out.on HFx.out.bel.size hb); replace HFx := hid hf; replace kq := block_cell HBx.out.blk; replace lq := lt_of_block HBx.out.blk; clear hf hb)
                            | (go_at_call 18; clear N3; refine (fx_might (i := 0) HFx.out rfl HBx.out.qn (by decide) (by omega) HRx.out).mono ?_; rintro e w9 ⟨rfl, hf, hb⟩; replace HBx := hid (HBx.out.on HFx.out.bel.size hb); replace HFx := hid hf; replace kq := block_cell HBx.out.blk; replace lq := lt_of_block HBx.out.blk; clear hf hb)
                            | (go_at_call 18; refine (fx_might (i := 1) HFx.out rfl HBx.out.qn (by decide) (by omega) HRy.out).mono ?_; rintro e w9 ⟨rfl, hf, hb⟩; replace HBx := hid (HBx.out.on HFx.out.bel.size hb); replace HFx := hid hf; replace kq := block_cell HBx.out.blk; replace lq := lt_of_block HBx.out.blk; clear hf hb))
                          go_roundw
                          case rel => exact ⟨j + 1, by omega, by go_num, HBx, HFx⟩
                          case measure => simp [intOf]; omega
                      | true =>
                        cases ry with
                        | false =>
                          go_wp2_with (first
                            | (go_at_call 18; clear N1; refine (fx_might (i := 2) HFx.out rfl HBx.out.qn (by decide) (by omega) HR.out).mono ?_; rintro e w9 ⟨rfl, hf, hb⟩; replace HBx := hid (HBx.out.on HFx.out.bel.size hb); replace HFx := hid hf; replace kq := block_cell HBx.out.blk; replace lq := lt_of_block HBx.out.blk; clear hf hb)
                            | (go_at_call 18; clear N2; refine (fx_might (i := 3) HFx.out rfl HBx.out.qn (by decide) (by omega) HR.out).mono ?_; rintro e w9 ⟨rfl, hf, hb⟩; replace HBx := hid (HBx.out.on HFx.out.bel.size hb); replace HFx := hid hf; replace kq := block_cell HBx.out.blk; replace lq := lt_of_block HBx.out.blk; clear hf hb)
                            | (go_at_call 18; clear N3; refine (fx_might (i := 0) HFx.out rfl HBx.out.qn (by decide) (by omega) HRx.out).mono ?_; rintro e w9 ⟨rfl, hf, hb⟩; replace HBx := hid (HBx.out.on HFx.out.bel.size hb); replace HFx := hid hf; replace kq := block_cell HBx.out.blk; replace lq := lt_of_block HBx.out.blk; clear hf hb)
                            | (go_at_call 18; refine (fx_might (i := 1) HFx.out rfl HBx.out.qn (by decide) (by omega) HRy.out).mono ?_; rintro e w9 ⟨rfl, hf, hb⟩; replace HBx := hid (HBx.out.on HFx.out.bel.size hb); replace HFx := hid hf; replace kq := block_cell HBx.out.blk; replace lq := lt_of_block HBx.out.blk; clear hf hb))
                          go_roundw
                          case rel => exact ⟨j + 1, by omega, by go_num, HBx, HFx⟩
                          case measure => simp [intOf]; omega
                        | true =>
                          go_wp2_with (first
                            | (go_at_call 18; clear N1; refine (fx_might (i := 2) HFx.out rfl HBx.out.qn (by decide) (by omega) HR.out).mono ?_; rintro e w9 ⟨rfl, hf, hb⟩; replace HBx := hid (HBx.out.on HFx.out.bel.size hb); replace HFx := hid hf; replace kq := block_cell HBx.out.blk; replace lq := lt_of_block HBx.out.blk; clear hf hb)
                            | (go_at_call 18; clear N2; refine (fx_might (i := 3) HFx.out rfl HBx.out.qn (by decide) (by omega) HR.out).mono ?_; rintro e w9 ⟨rfl, hf, hb⟩; replace HBx := hid (HBx.out.on HFx.out.bel.size hb); replace HFx := hid hf; replace kq := block_cell HBx.out.blk; replace lq := lt_of_block HBx.out.blk; clear hf hb)
                            | (go_at_call 18; clear N3; refine (fx_might (i := 0) HFx.out rfl HBx.out.qn (by decide) (by omega) HRx.out).mono ?_; rintro e w9 ⟨rfl, hf, hb⟩; replace HBx := hid (HBx.out.on HFx.out.bel.size hb); replace HFx := hid hf; replace kq := block_cell HBx.out.blk; replace lq := lt_of_block HBx.out.blk; clear hf hb)
                            | (go_at_call 18; refine (fx_might (i := 1) HFx.out rfl HBx.out.qn (by decide) (by omega) HRy.out).mono ?_; rintro e w9 ⟨rfl, hf, hb⟩; replace HBx := hid (HBx.out.on HFx.out.bel.size hb); replace HFx := hid hf; replace kq := block_cell HBx.out.blk; replace lq := lt_of_block HBx.out.blk; clear hf hb))
                          go_roundw
                          case rel => exact ⟨j + 1, by omega, by go_num, HBx, HFx⟩
                          case measure => simp [intOf]; omega
                  · obtain rfl : j = n2 := by omega
                    obtain ⟨F, hF⟩ : ∃ F, J.bits loadB hostB = F := ⟨_, rfl⟩
                    have HFF := hid hF
                    clear hF
                    have eqq := eql_same F
                    have hsj := HSJ.out
                    have N1 : Hid True := trivial
                    by_cases h1 : 0 < na
                    · rw [decide_eq_true h1, Bool.true_or] at hsj
                      have HSq := hid hsj
                      clear hsj
                      go_wp2_with (first
                        | (go_at_call 16; clear N1; refine (fx_bits (i := 2) HFx.out rfl (by decide) (by decide) HFF.out).mono ?_; rintro e w9 ⟨rfl, hf, hb⟩; replace HFx := hid hf; clear hf hb)
                        | (go_at_call 16; refine (fx_bits (i := 3) HFx.out rfl (by decide) (by decide) HFF.out).mono ?_; rintro e w9 ⟨rfl, hf, hb⟩; replace HFx := hid hf; clear hf hb)
                        | (go_at_call 14; refine (fx_seen (i := 2) HFx.out rfl (by decide) HSq.out).mono ?_; rintro e w10 ⟨rfl, rfl⟩))
                      go_ret
                      exact ⟨rfl, HFx.out.bel⟩
                    · rw [decide_eq_false h1, Bool.false_or] at hsj
                      by_cases h2 : 0 < nb
                      · rw [decide_eq_true h2] at hsj
                        have HSq := hid hsj
                        clear hsj
                        go_wp2_with (first
                          | (go_at_call 16; clear N1; refine (fx_bits (i := 2) HFx.out rfl (by decide) (by decide) HFF.out).mono ?_; rintro e w9 ⟨rfl, hf, hb⟩; replace HFx := hid hf; clear hf hb)
                          | (go_at_call 16; refine (fx_bits (i := 3) HFx.out rfl (by decide) (by decide) HFF.out).mono ?_; rintro e w9 ⟨rfl, hf, hb⟩; replace HFx := hid hf; clear hf hb)
                          | (go_at_call 14; refine (fx_seen (i := 2) HFx.out rfl (by decide) HSq.out).mono ?_; rintro e w10 ⟨rfl, rfl⟩))
                        go_ret
                        exact ⟨rfl, HFx.out.bel⟩
                      · rw [decide_eq_false h2] at hsj
                        have HSq := hid hsj
                        clear hsj
                        go_wp2_with (first
                          | (go_at_call 16; clear N1; refine (fx_bits (i := 2) HFx.out rfl (by decide) (by decide) HFF.out).mono ?_; rintro e w9 ⟨rfl, hf, hb⟩; replace HFx := hid hf; clear hf hb)
                          | (go_at_call 16; refine (fx_bits (i := 3) HFx.out rfl (by decide) (by decide) HFF.out).mono ?_; rintro e w9 ⟨rfl, hf, hb⟩; replace HFx := hid hf; clear hf hb)
                          | (go_at_call 14; refine (fx_seen (i := 2) HFx.out rfl (by decide) HSq.out).mono ?_; rintro e w10 ⟨rfl, rfl⟩))
                        go_ret
                        exact ⟨rfl, HFx.out.bel⟩
end Go.Proofs.Ytmkilckoeaekkaa
