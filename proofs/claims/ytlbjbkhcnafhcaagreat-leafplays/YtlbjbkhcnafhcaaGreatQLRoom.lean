/-
  What LeafRoom returns, for every room and all points.
-/
import Derived.Test.YtlbjbkhcnafhcaaGreatQLShown
import Derived.Test.YtlbjbkhcnafhcaaGreatP36Laid
namespace Go.Proofs.YtlbjbkhcnafhcaaGreat
open Go.RowKit Go.Sort Go.Shelf Go.Maps

theorem wrL_len {S : List Sc} {room : Int} {pts : List Pt} {p : Pt} : (wrL S room pts p).length = if wrN S room pts p then pts.length + 1 else pts.length := by unfold wrL; split <;> simp
theorem wrL_fit {S : List Sc} {room : Int} {pts : List Pt} {p : Pt} (h : ∀ q ∈ pts, fitsS S q = 0) : ∀ q ∈ wrL S room pts p, fitsS S q = 0 := by
  intro q hq
  unfold wrL at hq
  split at hq
  · rename_i hn
    rcases List.mem_append.1 hq with hq | hq
    · exact h q hq
    · simp at hq
      subst hq
      simp only [wrN, Bool.and_eq_true, decide_eq_true_eq] at hn
      exact hn.1
  · exact h q hq
theorem wrE_new {S : List Sc} {room : Int} {pts : List Pt} {p : Pt} (h : wrN S room pts p = true) : wrE S room pts p = 0 := by
  simp only [wrN, Bool.and_eq_true, Bool.not_eq_true', decide_eq_true_eq] at h
  unfold wrE; rw [if_pos h.1, h.2.1, if_neg (by decide), if_pos h.2.2]
theorem wrN_room {S : List Sc} {room : Int} {pts : List Pt} {p : Pt} (h : wrN S room pts p = true) : (pts.length : Int) < room := by
  simp only [wrN, Bool.and_eq_true, Bool.not_eq_true', decide_eq_true_eq] at h
  exact h.2.2
theorem fit_sz {S : List Sc} {pts : List Pt} (hc : checkS S = 0) (h : ∀ q ∈ pts, fitsS S q = 0) : ∀ p ∈ pts, List.length p.ks ≤ 4 ∧ List.length p.vs ≤ 4 := fun p hp => let ⟨h1, h2, _⟩ := fit_facts hc (h p hp); ⟨h1, h2⟩
theorem PtC.on {w w' : World} {g o : Nat} {q : Pt} {pk : Option Addr} {ck : Nat} {pv : Option Addr} {cv : Nat} (h : PtC w g o q pk ck pv cv) (hb : Below w.heap.size w w') : PtC w' g o q pk ck pv cv := ⟨SN.cell_onB h.c0 hb, SN.cell_onB h.c1 hb, SN.cell_onB h.c2 hb, SN.cell_onB h.c3 hb, h.ks.on hb, h.vs.on hb⟩
theorem PtC.pt {w : World} {g o : Nat} {q : Pt} {pk : Option Addr} {ck : Nat} {pv : Option Addr} {cv : Nat} (h : PtC w g o q pk ck pv cv) : PtAt w (.agg #[.string q.sc, .slice pk (List.length q.ks) ck, .int .i64 q.tm, .slice pv (List.length q.vs) cv]) q := ⟨_, _, rfl, h.ks, h.vs⟩
theorem conv_one {W : World} {z : Int} {c : UInt8} (hc : (c.toNat : Int) = z) : (convert 57 9 (.slice (some ⟨W.heap.size, 0, none⟩) 1 1)).run Tryz.prog (W.alloc (.cells #[.int .u8 z] 5)) = .ok (.string ⟨#[c]⟩) (W.alloc (.cells #[.int .u8 z] 5)) := by
  refine SN.conv_bat (xs := [c]) ⟨_, 1, rfl, Nat.le_refl _, (fun e => nomatch e), (by decide), fun _ => ⟨_, rfl, fun j x hj => ?_⟩⟩
  have hj0 : j = 0 := by have := (List.getElem?_eq_some_iff.1 hj).1; simp at this; omega
  subst hj0
  simp at hj
  subst hj
  rw [Addr.add_lit, block_cell (alloc_block W _), hc]
  rfl
theorem byte7 (k : Nat) : ((UInt8.ofNat (97 + k % 7)).toNat : Int) = 97 + (k : Int) % 7 := by
  rw [UInt8.toNat_ofNat']
  omega
theorem box_set {w : World} {BX : Nat} {a b c d a' b' c' d' : Value} (h : w.heap[BX]? = some (.cells #[a, b, c, d] 34)) : ((((w.setCell ⟨BX, 0, none⟩ a').setCell ⟨BX, 1, none⟩ b').setCell ⟨BX, 2, none⟩ c').setCell ⟨BX, 3, none⟩ d').heap[BX]? = some (.cells #[a', b', c', d'] 34) := by
  have h1 := RN.set_block (i := 0) h a'
  have h2 := RN.set_block (i := 1) h1 b'
  have h3 := RN.set_block (i := 2) h2 c'
  have h4 := RN.set_block (i := 3) h3 d'
  simpa using h4
theorem box_kp {w : World} {BX : Nat} (a' b' c' d' : Value) : Kp (fun k => k = BX) w ((((w.setCell ⟨BX, 0, none⟩ a').setCell ⟨BX, 1, none⟩ b').setCell ⟨BX, 2, none⟩ c').setCell ⟨BX, 3, none⟩ d') :=
  (((Kp.set (T := fun k => k = BX) rfl _).trans (Kp.set (T := fun k => k = BX) rfl _)).trans (Kp.set (T := fun k => k = BX) rfl _)).trans (Kp.set (T := fun k => k = BX) rfl _)
/- A leaf, and a point, while a box of the caller's turns. -/
theorem Lv.box {w0 w w' : World} {b : Nat} {S : List Sc} {room : Int} {x : Lx} {pts : List Pt} {BX : Nat} {cs : Array Value} {t : TypeId} {fz : Nat × Nat} (h : Lv w0 w b S room x pts) (hb : w.heap[BX]? = some (.cells cs t fz)) (hB : w0.heap.size ≤ BX) (hk : Kp (fun k => k = BX) w w') (ht : t = 34 ∨ t = 44) : Lv w0 w' b S room x pts := by
  obtain ⟨⟨B, h1, h2⟩, h3⟩ := h
  obtain ⟨l, R, h4, _⟩ := id h2.lk
  refine ⟨⟨B, h1, h2.kp hk (fun k hk e => ?_) (fun k hk e => ?_) (fun k hk e => ?_)⟩, h3.trans (hk.below h3.size (fun k e => by have e' : k = BX := e; omega))⟩
  · obtain ⟨c, t', fz', hc, e2⟩ := hk
    have e' : k = BX := e
    rw [e', hb] at hc; cases hc
    rcases ht with rfl | rfl <;> rcases e2 with e2 | e2 <;> cases e2
  · have e' : k = BX := e
    rw [e'] at hk
    exact h4.T_not hb (by rcases ht with rfl | rfl <;> decide) (by rcases ht with rfl | rfl <;> decide) (by rcases ht with rfl | rfl <;> decide) (by rcases ht with rfl | rfl <;> decide) (by rcases ht with rfl | rfl <;> decide) hk
  · obtain ⟨-, c, fz', hc⟩ := hk
    have e' : k = BX := e
    rw [e', hb] at hc; cases hc
    rcases ht with e3 | e3 <;> cases e3
theorem PtT.box {w w' : World} {u : Value} {p : Pt} {BX : Nat} {cs : Array Value} {t : TypeId} {fz : Nat × Nat} (h : PtT any w u p) (hb : w.heap[BX]? = some (.cells cs t fz)) (hk : Kp (fun k => k = BX) w w') (ht : t = 34 ∨ t = 44) : PtT any w' u p := h.kp hk fun k hk e => by
  obtain ⟨-, c, fz', hc⟩ := hk
  have e' : k = BX := e
  rw [e', hb] at hc; cases hc
  rcases ht with e3 | e3 <;> cases e3
theorem scan_all {pts : List Pt} (h : ∀ q ∈ pts, fitsS [scLoad] q = 0) : (scR [scLoad] pts nLoad (-9223372036854775808) 9223372036854775807).length = pts.length := by
  rw [scR_load, sortR_length]
  unfold scanR
  rw [List.length_map, List.filter_eq_self.2]
  intro p hp
  obtain ⟨j, s, hs, _, hn, _, _⟩ := fit_at check_load (h p hp)
  obtain ⟨_, _, _, _, h1, h2⟩ := fit_facts check_load (h p hp)
  have hj : j = 0 := by have := (List.getElem?_eq_some_iff.1 hs).1; simp at this; omega
  subst hj
  simp at hs
  subst hs
  unfold ofP
  rw [decide_eq_true_eq]
  exact ⟨hn.symm, by omega, by omega⟩
abbrev Bt (bx : Nat) (a c : Value) (w : World) : Prop := w.cell? ⟨bx, 0, none⟩ = some a ∧ w.cell? ⟨bx, 1, none⟩ = some c
theorem btD {w : World} {bx : Nat} {a c : Value} (h : Bt bx a c w) : Bt bx a c w.drew := h
theorem enters16 : ∀ args w, (callFunc 16 args).run Tryz.prog w = .ok (.enter 16 args) w := enters_of Tryz.func16 (by kernel_rfl) rfl
set_option maxRecDepth 100000 in
set_option maxHeartbeats 4000000 in
theorem room_any {w : World} {v : Value} {l : List Pt} {room : Int} (hv : PtsA w v l) : Calls Tryz.prog 5 #[.int .i64 room, v] w fun e w' => e = .returned (.bool true) ∧ Below w.heap.size w w' := by
  obtain ⟨p, cap, rfl, hcap, hmax, hrg, hx⟩ := hv
  have HRg := hid hrg
  have HX := hid hx
  unfold maxLen at hmax
  clear hrg hx
  generalize hn : l.length = n at *
  have HN := hid hn
  clear hn
  go_enter Tryz.func5, Tryz.ntmps5
  go_wp2_with (first
    | (go_at_call 7; refine shown_is.mono ?_; rintro e w1 ⟨rfl, hb1⟩; have HB1 := hid hb1; clear hb1)
    | (go_at_call 17; refine load_any.mono ?_; rintro e w2 ⟨v2, rfl, hs2, hb2⟩; have HS2 := hid hs2; have HB2 := hid (HB1.out.trans (hb2.mono HB1.out.size)); clear hs2 hb2)
    | (go_at_call 8; refine (new_v (room := room) HS2.out check_load HB2.out).mono ?_; rintro e w3 ⟨b, x0, rfl, hl3, -, -⟩; have HL3 := hid hl3; clear hl3))
  go_loopw [8] (fun i wr => ∃ (k : Nat) (x : Lx) (pts : List Pt), k ≤ n ∧ k ≤ 100 ∧ i = .int .i64 k ∧ Hid (pts.length ≤ k) ∧ Hid (Lv w wr b [scLoad] room x pts) ∧ Hid ((pts.length : Int) ≤ max 0 room) ∧ Hid (∀ q ∈ pts, fitsS [scLoad] q = 0)) (fun i _ => 100 - (intOf i).toNat)
  case atStart => exact ⟨0, x0, [], by omega, by omega, rfl, Nat.le_refl _, HL3.out, by show (0 : Int) ≤ _; omega, fun q hq => by cases hq⟩
  case round =>
    obtain ⟨k, x, pts, hk, hk2, rfl, HPk, HL, HMx, HFt⟩ := hrel
    by_cases hlt : k < n ∧ k < 100
    · obtain ⟨hlt1, hlt2⟩ := hlt
      have hk' : k < l.length := by rw [HN.out]; exact hlt1
      obtain ⟨q, hq⟩ : ∃ q, l[k]? = some q := ⟨l[k], List.getElem?_eq_getElem hk'⟩
      obtain ⟨g, o, pk, ck, pv, cv, rfl, hpc⟩ := HX.out k q hq
      have HPc := hid hpc
      have HRq := hid (HRg.out q (List.mem_of_getElem? hq)).1
      obtain ⟨c0, c1, c2, c3, -, -⟩ := hpc.on HL.out.bel
      clear hk' hq hpc
      go_upto_if 50 with (go_at_call 16; refine (points_v HL.out rfl).mono ?_; rintro e w5 ⟨rfl, rfl⟩)
      have hb5 := (Below.refl w5.heap.size w5).alloc (Nat.le_refl _) (.cells #[.string q.sc, .slice pk (List.length q.ks) ck, .int .i64 q.tm, .slice pv (List.length q.vs) cv] 34)
      have KX := hid (alloc_block w5 (.cells #[.string q.sc, .slice pk (List.length q.ks) ck, .int .i64 q.tm, .slice pv (List.length q.vs) cv] 34))
      have HL5 := hid (HL.out.on hb5)
      have HBX : Hid (w.heap.size ≤ w5.heap.size) := HL.out.bel.size
      clear hb5 c0 c1 c2 c3 HL
      generalize w5.heap.size = BX at *
      generalize (w5.alloc (.cells #[.string q.sc, .slice pk (List.length q.ks) ck, .int .i64 q.tm, .slice pv (List.length q.vs) cv] 34)) = W at *
      go_cut [51] from 32 to 97 (fun _ wx => ∃ (q' : Pt) (pk' : Option Addr) (ck' : Nat) (pv' : Option Addr) (cv' : Nat), Hid (wx.heap[BX]? = some (.cells #[.string q'.sc, .slice pk' (List.length q'.ks) ck', .int .i64 q'.tm, .slice pv' (List.length q'.vs) cv'] 34)) ∧ Hid (Lv w wx b [scLoad] room x pts) ∧ Hid (∀ w', Kp (Tl b x) wx w' → PtAt w' (.agg #[.string q'.sc, .slice pk' (List.length q'.ks) ck', .int .i64 q'.tm, .slice pv' (List.length q'.vs) cv']) q') ∧ Hid (∀ v ∈ q'.ks, SN.Rng v))
      case first =>
        have h2 : (((k : Int) % 2) == 0) = true ∨ (((k : Int) % 2) == 0) = false := by cases (((k : Int) % 2) == 0) <;> simp
        rcases h2 with h2 | h2
        · have hcv : (convert 57 9 (.slice (some ⟨W.heap.size, 0, none⟩) 1 1)).run Tryz.prog (W.alloc (.cells #[.int .u8 (97 + (k : Int) % 7)] 5)) = .ok (.string ⟨#[UInt8.ofNat (97 + k % 7)]⟩) (W.alloc (.cells #[.int .u8 (97 + (k : Int) % 7)] 5)) := conv_one (byte7 k)
          generalize hc9 : UInt8.ofNat (97 + k % 7) = c9 at *
          clear hc9
          have HA := hid ((Below.refl W.heap.size W).alloc (Nat.le_refl _) (.cells #[.int .u8 (97 + (k : Int) % 7)] 5))
          go_wp2_with (go_at_call 18; refine (point_any (s := ⟨#[c9]⟩) (show 1 ≤ maxLen by decide)).mono ?_; rintro e w6 ⟨u6, rfl, hp6, hb6⟩; have HP6 := hid hp6; obtain ⟨pk6, ck6, pv6, cv6, rfl, -⟩ := hp6; have HB6 := hid (HA.out.trans (hb6.mono HA.out.size)); have HL6 := hid (HL5.out.on HB6.out); have KX6 := hid (block_on KX.out HB6.out); have k6 := block_cell KX6.out; have f6 := frozen_no KX6.out; clear hb6 hcv)
          go_meet
          have hkp := box_kp (w := w6) (BX := BX) (.string (ptL ⟨#[c9]⟩ (show 1 ≤ maxLen by decide) ((k : Int) % 11) k).sc) (.slice pk6 (List.length (ptL ⟨#[c9]⟩ (show 1 ≤ maxLen by decide) ((k : Int) % 11) k).ks) ck6) (.int .i64 (ptL ⟨#[c9]⟩ (show 1 ≤ maxLen by decide) ((k : Int) % 11) k).tm) (.slice pv6 (List.length (ptL ⟨#[c9]⟩ (show 1 ≤ maxLen by decide) ((k : Int) % 11) k).vs) cv6)
          have hLb := HL6.out.box KX6.out HBX.out hkp (.inl rfl)
          exact ⟨_, pk6, ck6, pv6, cv6, box_set KX6.out, hLb, hLb.pt (HP6.out.box KX6.out hkp (.inl rfl)), rng_load _ _ _⟩
        · go_wp2
          go_meet
          exact ⟨q, pk, ck, pv, cv, KX.out, HL5.out, HL5.out.arg HPc.out.pt, HRq.out⟩
      case rest =>
        obtain ⟨q', pk', ck', pv', cv', KX', HL', HPk', HRq'⟩ := hcut
        have k7 := block_cell KX'.out
        have HFt' := hid (wrL_fit (room := room) (p := q') HFt.out)
        have hmx := HMx.out
        have hpk := HPk.out
        generalize hm : pts.length = m at *
        have HM := hid hm
        clear hm
        cases hw : wrN [scLoad] room pts q' with
        | true =>
          have HLn : Hid ((wrL [scLoad] room pts q').length = m + 1) := by show _ = _; rw [wrL_len, hw]; exact congrArg (· + 1) HM.out
          have hrm : (m : Int) < room := by have := wrN_room hw; rw [HM.out] at this; exact this
          have HW := hid hw
          have HWE := hid (wrE_new hw)
          clear hw
          go_wp2_with (first
            | (go_at_call 11; refine (write_v HL'.out HPk'.out check_load (by have := HPk.out; rw [HM.out]; omega) HRq'.out HW.out HWE.out rfl).mono ?_; rintro e w7 ⟨rfl, x7, hl7, -, -⟩; have HL7 := hid hl7; clear hl7)
            | (go_at_call 16; refine (points_v HL7.out HLn.out).mono ?_; rintro e w8 ⟨rfl, hw8⟩; subst hw8))
          exact ⟨⟨k + 1, x7, _, by omega, by omega, by go_num, by show _ ≤ _; rw [HLn.out]; omega, HL7.out, by show _ ≤ _; rw [HLn.out]; omega, HFt'.out⟩, by simp [intOf]; omega⟩
        | false =>
          have HLn : Hid ((wrL [scLoad] room pts q').length = m) := by show _ = _; rw [wrL_len, hw]; exact HM.out
          have HW := hid hw
          obtain ⟨z, hz⟩ : ∃ z, wrE [scLoad] room pts q' = z := ⟨_, rfl⟩
          have HWE := hid hz
          have hne : ((m : Int) == (m : Int) + 1) = false := by simp; omega
          have hnx : ¬ max 0 room < (m : Int) := by omega
          clear hw hz
          go_wp2_with (first
            | (go_at_call 11; refine (write_v HL'.out HPk'.out check_load (by have := HPk.out; rw [HM.out]; omega) HRq'.out HW.out HWE.out rfl).mono ?_; rintro e w7 ⟨rfl, x7, hl7, -, -⟩; have HL7 := hid hl7; clear hl7)
            | (go_at_call 16; refine (points_v HL7.out HLn.out).mono ?_; rintro e w8 ⟨rfl, hw8⟩; subst hw8))
          exact ⟨⟨k + 1, x7, _, by omega, by omega, by go_num, by show _ ≤ _; rw [HLn.out]; omega, HL7.out, by show _ ≤ _; rw [HLn.out]; omega, HFt'.out⟩, by simp [intOf]; omega⟩
    · have hfit := HFt.out
      have HAl := hid (scan_all HFt.out)
      have HSz := hid (fit_sz check_load HFt.out)
      have hpk := HPk.out
      rcases (show ¬ k < n ∨ (k < n ∧ ¬ k < 100) by omega) with h1 | ⟨h1, h2⟩
      all_goals
        clear hfit
        go_wp2_with (go_at_call 13; refine (scan_v (nm := nLoad) (a := -9223372036854775808) (z := 9223372036854775807) HL.out check_load (by omega) HSz.out scE_load scC_load rfl).mono ?_; rintro e w7 ⟨v7, rfl, ht7, hb7⟩; obtain ⟨pc7, nc7, cc7, pr7, cr7, rfl⟩ := tab_len ht7; rw [HAl.out]; have HL7 := hid (HL.out.on hb7); clear ht7 hb7)
        have hb8 := (Below.refl w7.heap.size w7).alloc (Nat.le_refl _) (.cells #[.slice pc7 nc7 cc7, .slice pr7 pts.length cr7] 44)
        have KB8 := alloc_block w7 (.cells #[.slice pc7 nc7 cc7, .slice pr7 pts.length cr7] 44)
        have HL8 := hid (HL7.out.on hb8)
        clear hb8
        generalize w7.heap.size = B8 at *
        generalize (w7.alloc (.cells #[.slice pc7 nc7 cc7, .slice pr7 pts.length cr7] 44)) = W8 at *
        have k8 := block_cell KB8
        have c1 := k8 1
        clear KB8
        refine wp_region_quiet_below (by kernel_rfl) (by kernel_rfl) ?_
        have q1 : ∀ (d : Nat) (os : Array Obj), (grow (redrawn W8 d) os).cell? ⟨B8, 1, none⟩ = some (.slice pr7 pts.length cr7) := fun d os => cell_regrown c1 d os
        have HCa : Hid (∀ d os, Calls Tryz.prog 16 #[dp b] (grow (redrawn W8 d) os) fun e w' => e = .returned (.int .i64 (pts.length : Int)) ∧ Below (grow (redrawn W8 d) os).heap.size (grow (redrawn W8 d) os) w') := fun d os => (points_v (HL8.out.on (below_regrown W8 d os)) rfl).mono (by rintro e w' ⟨rfl, rfl⟩; exact ⟨rfl, Below.refl _ _⟩)
        repeat (go_big_quiet_step (first | (go_at_call 16; exact Calls.regrown_of (HCa.out _ _))))
        refine wpQuiet_nil ?_
        intro _ hw'
        obtain ⟨⟨dr, osr⟩, hw''⟩ := hw'
        subst hw''
        have hb9 := (HL8.out.on (below_regrown W8 dr osr)).bel
        go_wp2
        go_ret
        exact ⟨rfl, hb9⟩
end Go.Proofs.YtlbjbkhcnafhcaaGreat
